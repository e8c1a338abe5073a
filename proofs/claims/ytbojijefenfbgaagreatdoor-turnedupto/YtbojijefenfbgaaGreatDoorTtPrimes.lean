/- The primes: P = 2^255 - 19 and L, the order of the base, by certificates that the kernel checks. The field of P = 2^255 - 19 elements, and that D is no square in it. Plain mathematics: it imports nothing of the program. The points of the curve and their sum: a group. Plain mathematics. Points by four coordinates (the program's) and by three (the document's) stand for points of the curve; sums and doubles of them for sums. Roots in the field, and the x of a point by its y. The program's words of the field as elements of F: Add, Sub, Mul. -/
import Derived.Test.YtbojijefenfbgaaGreatDoorTtBitsRun
namespace Go.Proofs.YtbojijefenfbgaaGreatDoor
namespace Nt
theorem k0h : z0i 8574133 := z1t 10000 (by decide) (by kernel_rfl)
theorem k0i : z0i 127 := z1t 10000 (by decide) (by kernel_rfl)
theorem k0j : z0i 1919519569386763 :=
 z7v (f := 256) (q := 8574133) (r := 223873314) (q' := 127) (r' := 15114327318006) (a := 2) (by decide) (by decide) (by decide) (by decide) k0h k0i (by decide) (by decide) (by kernel_rfl) (by kernel_rfl) (by kernel_rfl)
theorem k0k : z0i 569003 := z1t 10000 (by decide) (by kernel_rfl)
theorem k0l : z0i 2773320623 :=
 z4n (f := 256) (q := 569003) (r := 4874) (a := 2) (by decide) (by decide) (by decide) k0k (by decide) (by kernel_rfl) (by kernel_rfl)
theorem k0m : z0i 72106336199 :=
 z4n (f := 256) (q := 2773320623) (r := 26) (a := 2) (by decide) (by decide) (by decide) k0l (by decide) (by kernel_rfl) (by kernel_rfl)
theorem k0n : z0i 75445702479781427272750846543864801 :=
 z7v (f := 256) (q := 1919519569386763) (r := 39304471641247389600) (q' := 72106336199) (r' := 1046311689884858398375200) (a := 2) (by decide) (by decide) (by decide) (by decide) k0j k0m (by decide) (by decide) (by kernel_rfl) (by kernel_rfl) (by kernel_rfl)
theorem k0o : z0i 430751 := z1t 10000 (by decide) (by kernel_rfl)
theorem k0p : z0i 4153 := z1t 10000 (by decide) (by kernel_rfl)
theorem k0q : z0i 31757755568855353 :=
 z7v (f := 256) (q := 430751) (r := 73726481352) (q' := 4153) (r' := 7646943310584) (a := 2) (by decide) (by decide) (by decide) (by decide) k0o k0p (by decide) (by decide) (by kernel_rfl) (by kernel_rfl) (by kernel_rfl)
theorem q3o : z0i 74058212732561358302231226437062788676166966415465897661863160754340907 :=
 z7v (f := 256) (q := 75445702479781427272750846543864801) (r := 981609426360740691344999861639072106) (q' := 31757755568855353) (r' := 2331972502653487852620185443007392165117953542933313402) (a := 2) (by decide) (by decide) (by decide) (by decide) k0n k0q (by decide) (by decide) (by kernel_rfl) (by kernel_rfl) (by kernel_rfl)
theorem k0s : z0i 57896044618658097711785492504343953926634992332820282019728792003956564819949 :=
 z4n (f := 256) (q := 74058212732561358302231226437062788676166966415465897661863160754340907) (r := 781764) (a := 2) (by decide) (by decide) (by decide) q3o (by decide) (by kernel_rfl) (by kernel_rfl)
theorem q3p : z0i 1224481 := z1t 10000 (by decide) (by kernel_rfl)
theorem q3q : z0i 531581 := z1t 10000 (by decide) (by kernel_rfl)
theorem q3r : z0i 1257559732178653 :=
 z7v (f := 256) (q := 1224481) (r := 1027014492) (q' := 531581) (r' := 2365697292) (a := 2) (by decide) (by decide) (by decide) (by decide) q3p q3q (by decide) (by decide) (by kernel_rfl) (by kernel_rfl) (by kernel_rfl)
theorem q3s : z0i 4434155615661930479 :=
 z4n (f := 256) (q := 1257559732178653) (r := 3526) (a := 2) (by decide) (by decide) (by decide) q3r (by decide) (by kernel_rfl) (by kernel_rfl)
theorem q3t : z0i 172054593956031949258510691 :=
 z4n (f := 256) (q := 4434155615661930479) (r := 38802110) (a := 2) (by decide) (by decide) (by decide) q3s (by decide) (by kernel_rfl) (by kernel_rfl)
theorem q3u : z0i 19757330305831588566944191468367130476339 :=
 z4n (f := 256) (q := 172054593956031949258510691) (r := 114831751082918) (a := 2) (by decide) (by decide) (by decide) q3t (by decide) (by kernel_rfl) (by kernel_rfl)
theorem q3v : z0i 276602624281642239937218680557139826668747 :=
 z4n (f := 256) (q := 19757330305831588566944191468367130476339) (r := 14) (a := 2) (by decide) (by decide) (by decide) q3u (by decide) (by kernel_rfl) (by kernel_rfl)
theorem k0r : z0i 7237005577332262213973186563042994240857116359379907606001950938285454250989 :=
 z4n (f := 256) (q := 276602624281642239937218680557139826668747) (r := 26163907866482859529727157400808004) (a := 2) (by decide) (by decide) (by decide) q3v (by decide) (by kernel_rfl) (by kernel_rfl)
end Nt
namespace Ed
abbrev P : Nat := 57896044618658097711785492504343953926634992332820282019728792003956564819949
abbrev F := Fin P
theorem x5g : Nt.z0i P := Nt.k0s
theorem val_mul (a b : F) : (a * b).val = a.val * b.val % P := rfl
theorem z1s {a b : F} (h : a * b = 0) : a = 0 ∨ b = 0 := by
 have h1 : a.val * b.val % P = 0 := by
  have := congrArg Fin.val h
  rw [val_mul] at this
  exact this
 rcases x5g.dvd_mul (Nat.dvd_of_mod_eq_zero h1) with hd | hd
 ·left
  apply Fin.ext
  rcases Nat.eq_zero_or_pos a.val with h0 | h0
  ·rw [h0]; rfl
  ·exact absurd (Nat.le_of_dvd h0 hd) (by have := a.isLt; omega)
 ·right
  apply Fin.ext
  rcases Nat.eq_zero_or_pos b.val with h0 | h0
  ·rw [h0]; rfl
  ·exact absurd (Nat.le_of_dvd h0 hd) (by have := b.isLt; omega)
theorem z3u {a b : F} (ha : a ≠ 0) (hb : b ≠ 0) : a * b ≠ 0 := fun h => (z1s h).elim ha hb
theorem z3d {a b c : F} (ha : a ≠ 0) (h : a * b = a * c) : b = c := by
 have h1 : a * (b - c) = 0 := by grind
 rcases z1s h1 with h2 | h2
 ·exact absurd h2 ha
 ·grind
def z2r (a : F) (e : Nat) : F := ⟨a.val ^ e % P, Nat.mod_lt _ (by decide)⟩
theorem z5i (a : F) : z2r a 1 = a := by
 apply Fin.ext; show a.val ^ 1 % P = _; rw [Nat.pow_one]; exact Nat.mod_eq_of_lt a.isLt
theorem z2m (a : F) (e k : Nat) : z2r a (e + k) = z2r a e * z2r a k := by
 apply Fin.ext
 show a.val ^ (e + k) % P = (a.val ^ e % P) * (a.val ^ k % P) % P
 rw [Nat.pow_add, Nat.mul_mod]
theorem z7z (a : F) (e k : Nat) : z2r (z2r a e) k = z2r a (e * k) := by
 apply Fin.ext
 show (a.val ^ e % P) ^ k % P = a.val ^ (e * k) % P
 rw [← Nat.pow_mod, Nat.pow_mul]
theorem x6n (a : F) (e f v : Nat) (h : e < 2 ^ f) (hv : Nt.powMod P f a.val e = v) : (z2r a e).val = v := by
 rw [← hv, Nt.y1f P f a.val e h]; rfl
theorem y6b {a : F} (ha : a ≠ 0) : z2r a (P - 1) = 1 := by
 apply Fin.ext
 show a.val ^ (P - 1) % P = _
 rw [Nt.z8n x5g a.val (fun hd => ha ?_)]
 ·rfl
 ·apply Fin.ext
  rcases Nat.eq_zero_or_pos a.val with h0 | h0
  ·rw [h0]; rfl
  ·exact absurd (Nat.le_of_dvd h0 hd) (by have := a.isLt; omega)
def inv (a : F) : F := z2r a (P - 2)
theorem z2f {a : F} (ha : a ≠ 0) : a * inv a = 1 := by
 have h := y6b ha
 rw [show P - 1 = 1 + (P - 2) by decide, z2m, z5i] at h
 exact h
def dD : F := ⟨37095705934669439343138083508754565189542113879843219016388785533085940283555, by decide⟩
def cC : F := ⟨29203323570479832313932222820853031755424015489030106335172286495629888845891, by decide⟩
def iI : F := ⟨19681161376707505956807079304988542015446066515923890162744021073123829784752, by decide⟩
theorem y0p : dD * cC = 1 := by decide
theorem x6w : iI * iI = -1 := by decide
theorem y8h : cC ≠ 0 := by decide
theorem q6p : (2 : F) ≠ 0 := by decide
theorem k3j : z2r dD 28948022309329048855892746252171976963317496166410141009864396001978282409974 = -1 := by
 apply Fin.ext
 rw [x6n dD 28948022309329048855892746252171976963317496166410141009864396001978282409974 256 57896044618658097711785492504343953926634992332820282019728792003956564819948 (by decide) (by kernel_rfl)]
 rfl
theorem y5u (x : F) : x * x ≠ dD := fun h => by
 have hx : x ≠ 0 := fun h0 => by rw [h0] at h; exact absurd (show (0 : F) = dD by grind) (by decide)
 have h1 := k3j
 rw [← h] at h1
 have h2 : z2r (x * x) 28948022309329048855892746252171976963317496166410141009864396001978282409974 = 1 := by
  have e : x * x = z2r x 2 := by rw [show (2 : Nat) = 1 + 1 from rfl, z2m, z5i]
  rw [e, z7z, show 2 * 28948022309329048855892746252171976963317496166410141009864396001978282409974 = P - 1 by decide]
  exact y6b hx
 rw [h2] at h1
 exact absurd h1 (by decide)
theorem z9e (x : F) : x * x ≠ cC := fun h => by
 have hd := y0p
 refine y5u (x * dD) ?_
 grind
def On (x y : F) : Prop := x * x * (y * y) = cC * (y * y - x * x - 1)
theorem k8y (n : Nat) [NeZero n] (e m c : Fin n) (he : e * e = 1) (h0 : c + e * m = 0) : m = -(e * c) := by grind
theorem q8l (n : Nat) [NeZero n] (x1 y1 x2 y2 e i c : Fin n) (h1 : x1 * x1 * (y1 * y1) = c * (y1 * y1 - x1 * x1 - 1)) (h2 : x2 * x2 * (y2 * y2) = c * (y2 * y2 - x2 * x2 - 1)) (he : e * e = 1) (hi : i * i = -1)
  (hm : x1 * x2 * y1 * y2 = -(e * c)) : c * (c * ((i * x1 - e * y1) * (i * x1 - e * y1))) = c * ((x1 * y1 * (y2 + i * x2)) * (x1 * y1 * (y2 + i * x2))) := by grind
theorem q8o (n : Nat) [NeZero n] (i : Fin n) (hi : i * i = -1) : (-i) * (-i) = -1 := by grind
theorem x3r (n : Nat) [NeZero n] (x1 y1 x2 y2 : Fin n) (h : x1 * y1 = 0) : x1 * x2 * y1 * y2 = 0 := by grind
theorem y6l (n : Nat) [NeZero n] (a : Fin n) (h : 0 = -a) : a = 0 := by grind
theorem k4q (n : Nat) [NeZero n] (c u v w : Fin n) (h : c * (u * u) = v * v) (hw : u * w = 1) : (v * w) * (v * w) = c := by grind
theorem q8r (n : Nat) [NeZero n] (i x y : Fin n) (h1 : y + i * x = 0) (h2 : y + -i * x = 0) : 2 * y = 0 := by grind
theorem k4c (n : Nat) [NeZero n] (i x y : Fin n) (hi : i * i = -1) (h1 : y + i * x = 0) (hy : y = 0) : x = 0 := by grind
theorem k8x (n : Nat) [NeZero n] (c x y : Fin n) (hx : x = 0) (hy : y = 0) (h : x * x * (y * y) = c * (y * y - x * x - 1)) : c = 0 := by grind
theorem q2b (n : Nat) [NeZero n] (c u : Fin n) (h : u = 0) : c * (u * u) = 0 := by grind
theorem q6e {x1 y1 x2 y2 : F} (h1 : On x1 y1) (h2 : On x2 y2) (e i : F) (he : e * e = 1) (hi : i * i = -1) (hm : x1 * x2 * y1 * y2 = -(e * cC)) (hx1 : x1 * y1 ≠ 0) : y2 + i * x2 = 0 := by
 have key := z3d y8h (q8l P x1 y1 x2 y2 e i cC h1 h2 he hi hm)
 refine Classical.byContradiction fun hne => ?_
 have hv : x1 * y1 * (y2 + i * x2) ≠ 0 := z3u hx1 hne
 by_cases hu : i * x1 - e * y1 = 0
 ·have : cC * ((i * x1 - e * y1) * (i * x1 - e * y1)) = 0 := q2b P _ _ hu
  rw [this] at key
  exact z3u hv hv key.symm
 ·exact z9e _ (k4q P cC _ _ _ key (z2f hu))
theorem complete {x1 y1 x2 y2 : F} (h1 : On x1 y1) (h2 : On x2 y2) (e : F) (he : e * e = 1) : cC + e * (x1 * x2 * y1 * y2) ≠ 0 := fun h0 => by
 have hm := k8y P e _ cC he h0
 have hx1 : x1 * y1 ≠ 0 := fun hz => by
  rw [x3r P x1 y1 x2 y2 hz] at hm
  rcases z1s (y6l P _ hm) with h | h
  ·rw [h] at he; exact absurd he (by decide)
  ·exact y8h h
 have k1 := q6e h1 h2 e iI he x6w hm hx1
 have k2 := q6e h1 h2 e (-iI) he (q8o P iI x6w) hm hx1
 rcases z1s (q8r P iI x2 y2 k1 k2) with h | hy
 ·exact q6p h
 ·exact y8h (k8x P cC x2 y2 (k4c P iI x2 y2 x6w k1 hy) hy h2)
end Ed
namespace Ed
abbrev Pt := F × F
def OnP (p : Pt) : Prop := On p.1 p.2
def zero : Pt := (0, 1)
def neg (p : Pt) : Pt := (-p.1, p.2)
def mm (p q : Pt) : F := p.1 * q.1 * p.2 * q.2
def z2a (p q : Pt) : Pt := (cC * (p.1 * q.2 + p.2 * q.1) * inv (cC + mm p q), cC * (p.2 * q.2 + p.1 * q.1) * inv (cC - mm p q))
theorem k4a (n : Nat) [NeZero n] (c m : Fin n) : c + 1 * m = c + m := by grind
theorem k4b (n : Nat) [NeZero n] (c m : Fin n) : c + (-1) * m = c - m := by grind
theorem k2j {p q : Pt} (hp : OnP p) (hq : OnP q) : cC + mm p q ≠ 0 := by
 have h := complete hp hq 1 (by decide)
 rw [k4a] at h; exact h
theorem q7t {p q : Pt} (hp : OnP p) (hq : OnP q) : cC - mm p q ≠ 0 := by
 have h := complete hp hq (-1) (by decide)
 rw [k4b] at h; exact h
theorem k4g (n : Nat) [NeZero n] (c x1 y1 x2 y2 : Fin n) (h1 : x1 * x1 * (y1 * y1) = c * (y1 * y1 - x1 * x1 - 1)) (h2 : x2 * x2 * (y2 * y2) = c * (y2 * y2 - x2 * x2 - 1)) :
  c * c * c * ((x1 * y2 + y1 * x2) * (x1 * y2 + y1 * x2)) * ((y1 * y2 + x1 * x2) * (y1 * y2 + x1 * x2)) = c * c * ((y1 * y2 + x1 * x2) * (y1 * y2 + x1 * x2)) * ((c + x1 * x2 * y1 * y2) * (c + x1 * x2 * y1 * y2)) - c * c * ((x1 * y2 + y1 * x2) * (x1 * y2 + y1 * x2)) * ((c - x1 * x2 * y1 * y2) * (c - x1 * x2 * y1 * y2)) - (c + x1 * x2 * y1 * y2) * (c + x1 * x2 * y1 * y2) * ((c - x1 * x2 * y1 * y2) * (c - x1 * x2 * y1 * y2)) := by grind
theorem q8q (n : Nat) [NeZero n] (c N M A B u v : Fin n) (hu : A * u = 1) (hv : B * v = 1) (h : c * c * c * (N * N) * (M * M) = c * c * (M * M) * (A * A) - c * c * (N * N) * (B * B) - A * A * (B * B)) :
  (c * N * u) * (c * N * u) * ((c * M * v) * (c * M * v)) = c * ((c * M * v) * (c * M * v) - (c * N * u) * (c * N * u) - 1) := by
 have e : c * (c * c * c * (N * N) * (M * M)) * (u * u) * (v * v) = c * (c * c * (M * M) * (A * A) - c * c * (N * N) * (B * B) - A * A * (B * B)) * (u * u) * (v * v) := by rw [h]
 have e1 : (A * A) * (u * u) = 1 := by grind
 have e2 : (B * B) * (v * v) = 1 := by grind
 clear h hu hv
 grind
theorem z5o {p q : Pt} (hp : OnP p) (hq : OnP q) : OnP (z2a p q) :=
 q8q P cC _ _ _ _ _ _ (z2f (k2j hp hq)) (z2f (q7t hp hq)) (k4g P cC p.1 p.2 q.1 q.2 hp hq)
theorem x0g : OnP zero := by unfold OnP On zero; grind
theorem z8d {p : Pt} (hp : OnP p) : OnP (neg p) := by
 unfold OnP On neg at *
 have : -p.1 * -p.1 = p.1 * p.1 := by grind
 simp only [this]; exact hp
theorem z6h (p q : Pt) : z2a p q = z2a q p := by
 have h : mm p q = mm q p := by unfold mm; grind
 have h1 : p.1 * q.2 + p.2 * q.1 = q.1 * p.2 + q.2 * p.1 := by grind
 have h2 : p.2 * q.2 + p.1 * q.1 = q.2 * p.2 + q.1 * p.1 := by grind
 unfold z2a
 rw [h, h1, h2]
theorem k4t (n : Nat) [NeZero n] (c x y u : Fin n) (h : c * u = 1) : c * (x * 1 + y * 0) * u = x := by grind
theorem k4u (n : Nat) [NeZero n] (c x y u : Fin n) (h : c * u = 1) : c * (y * 1 + x * 0) * u = y := by grind
theorem z2w (p : Pt) : z2a p zero = p := by
 have h : mm p zero = 0 := by unfold mm zero; grind
 have h1 : cC + 0 = cC := by grind
 have h2 : cC - 0 = cC := by grind
 unfold z2a
 rw [h, h1, h2]
 exact Prod.ext (k4t P cC p.1 p.2 _ (z2f y8h)) (k4u P cC p.1 p.2 _ (z2f y8h))
theorem z6t (p : Pt) : z2a zero p = p := by rw [z6h, z2w]
theorem k4d (n : Nat) [NeZero n] (c x y u : Fin n) : c * (x * y + y * -x) * u = 0 := by grind
theorem k4e (n : Nat) [NeZero n] (c x y u : Fin n) (h : x * x * (y * y) = c * (y * y - x * x - 1)) (hu : (c - x * -x * y * y) * u = 1) : c * (y * y + x * -x) * u = 1 := by grind
theorem x1u {p : Pt} (hp : OnP p) : z2a p (neg p) = zero := by
 obtain ⟨x, y⟩ := p
 have hd := z2f (q7t hp (z8d hp))
 have h1 : (z2a (x, y) (neg (x, y))).1 = 0 := k4d P cC x y _
 have h2 : (z2a (x, y) (neg (x, y))).2 = 1 := k4e P cC x y _ hp hd
 exact Prod.ext h1 h2
theorem k2z (n : Nat) [NeZero n] (c x1 y1 x2 y2 x3 y3 : Fin n) (h1 : x1*x1*(y1*y1) = c*(y1*y1 - x1*x1 - 1)) (h2 : x2*x2*(y2*y2) = c*(y2*y2 - x2*x2 - 1)) (h3 : x3*x3*(y3*y3) = c*(y3*y3 - x3*x3 - 1)) :
  ((x1*y2+y1*x2)*(c-x1*x2*y1*y2)*y3 + (y1*y2+x1*x2)*(c+x1*x2*y1*y2)*x3) * ((c+x2*x3*y2*y3)*(c-x2*x3*y2*y3) + c*(x2*y3+y2*x3)*(y2*y3+x2*x3)*x1*y1)
  = ((x2*y3+y2*x3)*(c-x2*x3*y2*y3)*y1 + (y2*y3+x2*x3)*(c+x2*x3*y2*y3)*x1) * ((c+x1*x2*y1*y2)*(c-x1*x2*y1*y2) + c*(x1*y2+y1*x2)*(y1*y2+x1*x2)*x3*y3) := by grind
theorem k3a (n : Nat) [NeZero n] (c x1 y1 x2 y2 x3 y3 : Fin n) (h1 : x1*x1*(y1*y1) = c*(y1*y1 - x1*x1 - 1)) (h2 : x2*x2*(y2*y2) = c*(y2*y2 - x2*x2 - 1)) (h3 : x3*x3*(y3*y3) = c*(y3*y3 - x3*x3 - 1)) :
  ((y1*y2+x1*x2)*(c+x1*x2*y1*y2)*y3 + (x1*y2+y1*x2)*(c-x1*x2*y1*y2)*x3) * ((c+x2*x3*y2*y3)*(c-x2*x3*y2*y3) - c*(x2*y3+y2*x3)*(y2*y3+x2*x3)*x1*y1)
  = ((y2*y3+x2*x3)*(c+x2*x3*y2*y3)*y1 + (x2*y3+y2*x3)*(c-x2*x3*y2*y3)*x1) * ((c+x1*x2*y1*y2)*(c-x1*x2*y1*y2) - c*(x1*y2+y1*x2)*(y1*y2+x1*x2)*x3*y3) := by grind
theorem x3p (n : Nat) [NeZero n] (c N M A B u v s t w X : Fin n) (hu : A * u = 1) (hv : B * v = 1) (hw : (c + c * N * u * s * (c * M * v) * t) * w = 1) (hX : X = c * (c * N * u * t + c * M * v * s) * w) :
  c * ((A * B + c * N * M * s * t) * X) = c * (c * (N * B * t + M * A * s)) := by
 have e1 : (c * N * u) * A = c * N := by grind
 have e2 : (c * M * v) * B = c * M := by grind
 generalize c * N * u = x at *
 generalize c * M * v = y at *
 have e3 : X * (c + x * s * y * t) = c * (x * t + y * s) := by grind
 have e4 : X * (c + x * s * y * t) * (A * B) = c * (x * t + y * s) * (A * B) := by rw [e3]
 clear hu hv hw hX e3
 grind
theorem x3q (n : Nat) [NeZero n] (c N M A B u v s t w X : Fin n) (hu : A * u = 1) (hv : B * v = 1) (hw : (c - c * N * u * s * (c * M * v) * t) * w = 1) (hX : X = c * (c * M * v * t + c * N * u * s) * w) :
  c * ((A * B - c * N * M * s * t) * X) = c * (c * (M * A * t + N * B * s)) := by
 have e1 : (c * N * u) * A = c * N := by grind
 have e2 : (c * M * v) * B = c * M := by grind
 generalize c * N * u = x at *
 generalize c * M * v = y at *
 have e3 : X * (c - x * s * y * t) = c * (y * t + x * s) := by grind
 have e4 : X * (c - x * s * y * t) * (A * B) = c * (y * t + x * s) * (A * B) := by rw [e3]
 clear hu hv hw hX e3
 grind
theorem q8m (n : Nat) [NeZero n] (c N M A B u v s t : Fin n) (hu : A * u = 1) (hv : B * v = 1) (h0 : A * B + c * N * M * s * t = 0) : c + c * N * u * s * (c * M * v) * t = 0 := by
 have e : (A * B + c * N * M * s * t) * (c * u * v) = 0 := by rw [h0]; grind
 have e1 : A * B * (u * v) = 1 := by grind
 clear h0 hu hv
 grind
theorem q8n (n : Nat) [NeZero n] (c N M A B u v s t : Fin n) (hu : A * u = 1) (hv : B * v = 1) (h0 : A * B - c * N * M * s * t = 0) : c - c * N * u * s * (c * M * v) * t = 0 := by
 have e : (A * B - c * N * M * s * t) * (c * u * v) = 0 := by rw [h0]; grind
 have e1 : A * B * (u * v) = 1 := by grind
 clear h0 hu hv
 grind
theorem k5d {p q r : Pt} (hp : OnP p) (hq : OnP q) (hr : OnP r) :
  ((cC + mm p q) * (cC - mm p q) + cC * (p.1 * q.2 + p.2 * q.1) * (p.2 * q.2 + p.1 * q.1) * r.1 * r.2) * (z2a (z2a p q) r).1 = cC * ((p.1 * q.2 + p.2 * q.1) * (cC - mm p q) * r.2 + (p.2 * q.2 + p.1 * q.1) * (cC + mm p q) * r.1)
  ∧ (cC + mm p q) * (cC - mm p q) + cC * (p.1 * q.2 + p.2 * q.1) * (p.2 * q.2 + p.1 * q.1) * r.1 * r.2 ≠ 0 := by
 have hu := z2f (k2j hp hq)
 have hv := z2f (q7t hp hq)
 have hne := k2j (z5o hp hq) hr
 have hw := z2f hne
 exact ⟨z3d y8h (x3p P cC (p.1 * q.2 + p.2 * q.1) (p.2 * q.2 + p.1 * q.1) (cC + mm p q) (cC - mm p q) _ _ r.1 r.2 _ _ hu hv hw rfl), fun h0 => hne (q8m P cC _ _ _ _ _ _ _ _ hu hv h0)⟩
theorem k5e {p q r : Pt} (hp : OnP p) (hq : OnP q) (hr : OnP r) :
  ((cC + mm p q) * (cC - mm p q) - cC * (p.1 * q.2 + p.2 * q.1) * (p.2 * q.2 + p.1 * q.1) * r.1 * r.2) * (z2a (z2a p q) r).2 = cC * ((p.2 * q.2 + p.1 * q.1) * (cC + mm p q) * r.2 + (p.1 * q.2 + p.2 * q.1) * (cC - mm p q) * r.1)
  ∧ (cC + mm p q) * (cC - mm p q) - cC * (p.1 * q.2 + p.2 * q.1) * (p.2 * q.2 + p.1 * q.1) * r.1 * r.2 ≠ 0 := by
 have hu := z2f (k2j hp hq)
 have hv := z2f (q7t hp hq)
 have hne := q7t (z5o hp hq) hr
 have hw := z2f hne
 exact ⟨z3d y8h (x3q P cC (p.1 * q.2 + p.2 * q.1) (p.2 * q.2 + p.1 * q.1) (cC + mm p q) (cC - mm p q) _ _ r.1 r.2 _ _ hu hv hw rfl), fun h0 => hne (q8n P cC _ _ _ _ _ _ _ _ hu hv h0)⟩
theorem q5q (n : Nat) [NeZero n] (c X Y a b d e : Fin n) (h1 : a * X = c * b) (h2 : d * Y = c * e) (h : b * d = e * a) : (a * d) * X = (a * d) * Y := by grind
theorem z2b {p q r : Pt} (hp : OnP p) (hq : OnP q) (hr : OnP r) : z2a (z2a p q) r = z2a p (z2a q r) := by
 rw [z6h p (z2a q r)]
 have a1 := k5d hp hq hr
 have a2 := k5e hp hq hr
 have b1 := k5d hq hr hp
 have b2 := k5e hq hr hp
 have k1 := k2z P cC p.1 p.2 q.1 q.2 r.1 r.2 hp hq hr
 have k2 := k3a P cC p.1 p.2 q.1 q.2 r.1 r.2 hp hq hr
 exact Prod.ext (z3d (z3u a1.2 b1.2) (q5q P cC _ _ _ _ _ _ a1.1 b1.1 k1)) (z3d (z3u a2.2 b2.2) (q5q P cC _ _ _ _ _ _ a2.1 b2.1 k2))
def z1x (p : Pt) : Nat → Pt
 | 0 => zero
 | n + 1 => z2a (z1x p n) p
theorem z1i {p : Pt} (hp : OnP p) (n : Nat) : OnP (z1x p n) := by
 induction n with
 | zero => exact x0g
 | succ n ih => exact z5o ih hp
theorem z6x {p : Pt} (hp : OnP p) (m n : Nat) : z1x p (m + n) = z2a (z1x p m) (z1x p n) := by
 induction n with
 | zero => rw [Nat.add_zero]; exact (z2w _).symm
 | succ n ih =>
  show z2a (z1x p (m + n)) p = z2a (z1x p m) (z2a (z1x p n) p)
  rw [ih, z2b (z1i hp m) (z1i hp n) hp]
theorem q2x (p : Pt) : z1x p 1 = p := z6t p
theorem z8c {p : Pt} (hp : OnP p) (m n : Nat) : z1x (z1x p m) n = z1x p (m * n) := by
 induction n with
 | zero => rfl
 | succ n ih =>
  show z2a (z1x (z1x p m) n) (z1x p m) = _
  rw [ih, Nat.mul_succ, z6x hp]
end Ed
namespace Ed
structure E where
 x : F
 y : F
 z : F
 t : F
def quot (e f g h : F) : E := ⟨e * f, g * h, f * g, e * h⟩
def y8m (p q : E) : E :=
 quot ((p.y + p.x) * (q.y + q.x) - (p.y - p.x) * (q.y - q.x)) (p.z * q.z + p.z * q.z - p.t * (dD + dD) * q.t) (p.z * q.z + p.z * q.z + p.t * (dD + dD) * q.t) ((p.y + p.x) * (q.y + q.x) + (p.y - p.x) * (q.y - q.x))
def z7x (p : E) : E :=
 quot ((p.x + p.y) * (p.x + p.y) - p.x * p.x - p.y * p.y) (p.y * p.y - p.x * p.x - (p.z * p.z + p.z * p.z)) (p.y * p.y - p.x * p.x) (0 - (p.x * p.x + p.y * p.y))
def q5m (p : E) : E := ⟨0 - p.x, p.y, p.z, 0 - p.t⟩
def aff (x y : F) : E := ⟨x, y, 1, x * y⟩
def z7m : E := aff 0 1
structure Rep (e : E) (p : Pt) : Prop where
 z : e.z ≠ 0
 x : e.x = p.1 * e.z
 y : e.y = p.2 * e.z
 t : e.t = p.1 * p.2 * e.z
theorem q1v (n : Nat) [NeZero n] (x1 y1 z1 x2 y2 z2 : Fin n) : (y1 * z1 + x1 * z1) * (y2 * z2 + x2 * z2) - (y1 * z1 - x1 * z1) * (y2 * z2 - x2 * z2) = 2 * (z1 * z2) * (x1 * y2 + y1 * x2) := by grind
theorem q1y (n : Nat) [NeZero n] (x1 y1 z1 x2 y2 z2 : Fin n) : (y1 * z1 + x1 * z1) * (y2 * z2 + x2 * z2) + (y1 * z1 - x1 * z1) * (y2 * z2 - x2 * z2) = 2 * (z1 * z2) * (y1 * y2 + x1 * x2) := by grind
theorem q1w (n : Nat) [NeZero n] (x1 y1 z1 x2 y2 z2 c d : Fin n) (h : d * c = 1) : z1 * z2 + z1 * z2 - x1 * y1 * z1 * (d + d) * (x2 * y2 * z2) = 2 * (z1 * z2) * (d * (c - x1 * x2 * y1 * y2)) := by grind
theorem q1x (n : Nat) [NeZero n] (x1 y1 z1 x2 y2 z2 c d : Fin n) (h : d * c = 1) : z1 * z2 + z1 * z2 + x1 * y1 * z1 * (d + d) * (x2 * y2 * z2) = 2 * (z1 * z2) * (d * (c + x1 * x2 * y1 * y2)) := by grind
theorem k4j (n : Nat) [NeZero n] (k N A B d c u : Fin n) (h : d * c = 1) (hu : A * u = 1) : k * N * (k * (d * B)) = c * N * u * (k * (d * B) * (k * (d * A))) := by grind
theorem k4k (n : Nat) [NeZero n] (k M A B d c v : Fin n) (h : d * c = 1) (hv : B * v = 1) : k * (d * A) * (k * M) = c * M * v * (k * (d * B) * (k * (d * A))) := by grind
theorem k4l (n : Nat) [NeZero n] (k N M A B d c u v : Fin n) (h : d * c = 1) (hu : A * u = 1) (hv : B * v = 1) : k * N * (k * M) = c * N * u * (c * M * v) * (k * (d * B) * (k * (d * A))) := by
 have e1 : k * N = c * N * u * (k * (d * A)) := by grind
 have e2 : k * M = c * M * v * (k * (d * B)) := by grind
 rw [e1, e2]
 grind
theorem k3i : dD ≠ 0 := by decide
theorem x1z {p q : Pt} (hp : OnP p) (hq : OnP q) (k e f g h : F) (hk : k ≠ 0) (he : e = k * (p.1 * q.2 + p.2 * q.1)) (hf : f = k * (dD * (cC - mm p q))) (hg : g = k * (dD * (cC + mm p q))) (hh : h = k * (p.2 * q.2 + p.1 * q.1)) :
  Rep (quot e f g h) (z2a p q) := by
 have hu := z2f (k2j hp hq)
 have hv := z2f (q7t hp hq)
 subst he hf hg hh
 refine ⟨?_, ?_, ?_, ?_⟩
 ·exact z3u (z3u hk (z3u k3i (q7t hp hq))) (z3u hk (z3u k3i (k2j hp hq)))
 ·exact k4j P k _ _ _ dD cC _ y0p hu
 ·exact k4k P k _ _ _ dD cC _ y0p hv
 ·exact k4l P k _ _ _ _ dD cC _ _ y0p hu hv
theorem y3u {e f : E} {p q : Pt} (hp : OnP p) (hq : OnP q) (he : Rep e p) (hf : Rep f q) : Rep (y8m e f) (z2a p q) := by
 unfold y8m
 refine x1z hp hq (2 * (e.z * f.z)) _ _ _ _ (z3u q6p (z3u he.z hf.z)) ?_ ?_ ?_ ?_
 ·rw [he.x, he.y, hf.x, hf.y]
  exact q1v P p.1 p.2 e.z q.1 q.2 f.z
 ·rw [he.t, hf.t]
  exact q1w P p.1 p.2 e.z q.1 q.2 f.z cC dD y0p
 ·rw [he.t, hf.t]
  exact q1x P p.1 p.2 e.z q.1 q.2 f.z cC dD y0p
 ·rw [he.x, he.y, hf.x, hf.y]
  exact q1y P p.1 p.2 e.z q.1 q.2 f.z
theorem k3w (n : Nat) [NeZero n] (x y z : Fin n) : (x * z + y * z) * (x * z + y * z) - x * z * (x * z) - y * z * (y * z) = z * z * (x * y + y * x) := by grind
theorem k3x (n : Nat) [NeZero n] (x y z c d : Fin n) (h : d * c = 1) (ho : x * x * (y * y) = c * (y * y - x * x - 1)) : y * z * (y * z) - x * z * (x * z) - (z * z + z * z) = 0 - z * z * (d * (c - x * x * y * y)) := by
 have e : d * (x * x * (y * y)) = y * y - x * x - 1 := by rw [ho]; grind
 grind
theorem k3y (n : Nat) [NeZero n] (x y z c d : Fin n) (h : d * c = 1) (ho : x * x * (y * y) = c * (y * y - x * x - 1)) : y * z * (y * z) - x * z * (x * z) = z * z * (d * (c + x * x * y * y)) := by
 have e : d * (x * x * (y * y)) = y * y - x * x - 1 := by rw [ho]; grind
 grind
theorem k3z (n : Nat) [NeZero n] (x y z : Fin n) : 0 - (x * z * (x * z) + y * z * (y * z)) = 0 - z * z * (y * y + x * x) := by grind
theorem q2a (n : Nat) [NeZero n] (e f g h : Fin n) : (e * (0 - f), g * (0 - h), (0 - f) * g, e * (0 - h)) = (0 - e * f, 0 - g * h, 0 - f * g, 0 - e * h) := by
 refine Prod.ext ?_ (Prod.ext ?_ (Prod.ext ?_ ?_)) <;> grind
theorem z8r (n : Nat) [NeZero n] (a b : Fin n) : 0 - a * b = a * (0 - b) := by grind
theorem q2e (n : Nat) [NeZero n] (a : Fin n) (h : 0 - a = 0) : a = 0 := by grind
theorem q4b {e : E} {p : Pt} (h : Rep e p) : Rep ⟨0 - e.x, 0 - e.y, 0 - e.z, 0 - e.t⟩ p :=
 ⟨fun h0 => h.z (q2e P _ h0), by show 0 - e.x = _; rw [h.x]; exact z8r P _ _, by show 0 - e.y = _; rw [h.y]; exact z8r P _ _, by show 0 - e.t = _; rw [h.t]; exact z8r P _ _⟩
theorem z7y {e : E} {p : Pt} (hp : OnP p) (he : Rep e p) : Rep (z7x e) (z2a p p) := by
 have h := x1z hp hp (e.z * e.z) _ _ _ _ (z3u he.z he.z) rfl rfl rfl rfl
 have h2 := q4b h
 have hx := he.x
 have hy := he.y
 have e1 : z7x e = quot (e.z * e.z * (p.1 * p.2 + p.2 * p.1)) (0 - e.z * e.z * (dD * (cC - mm p p))) (e.z * e.z * (dD * (cC + mm p p))) (0 - e.z * e.z * (p.2 * p.2 + p.1 * p.1)) := by
  unfold z7x
  rw [hx, hy, k3w P p.1 p.2 e.z, k3x P p.1 p.2 e.z cC dD y0p hp, k3y P p.1 p.2 e.z cC dD y0p hp, k3z P p.1 p.2 e.z]
  rfl
 rw [e1]
 have hfl := q2a P (e.z * e.z * (p.1 * p.2 + p.2 * p.1)) (e.z * e.z * (dD * (cC - mm p p))) (e.z * e.z * (dD * (cC + mm p p))) (e.z * e.z * (p.2 * p.2 + p.1 * p.1))
 simp only [Prod.mk.injEq] at hfl
 unfold quot at h2 ⊢
 rw [hfl.1, hfl.2.1, hfl.2.2.1, hfl.2.2.2]
 exact h2
theorem k5u : (1 : F) ≠ 0 := by decide
theorem y8v (n : Nat) [NeZero n] (a : Fin n) : a = a * 1 := by grind
theorem z5y (x y : F) : Rep (aff x y) (x, y) := ⟨k5u, y8v P x, y8v P y, y8v P (x * y)⟩
theorem k4f (n : Nat) [NeZero n] (a b : Fin n) : 0 - a * b = -a * b := by grind
theorem q8p (n : Nat) [NeZero n] (a b c : Fin n) : 0 - a * c * b = -a * c * b := by grind
theorem q1o {e : E} {p : Pt} (he : Rep e p) : Rep (q5m e) (neg p) :=
 ⟨he.z, by show 0 - e.x = -p.1 * e.z; rw [he.x]; exact k4f P _ _, he.y, by show 0 - e.t = -p.1 * p.2 * e.z; rw [he.t]; exact q8p P _ _ _⟩
theorem x6q (n : Nat) [NeZero n] (a z u : Fin n) (h : z * u = 1) : a * z * u = a := by grind
theorem k9w {e : E} {p : Pt} (he : Rep e p) : e.x * inv e.z = p.1 := by rw [he.x]; exact x6q P _ _ _ (z2f he.z)
theorem k9x {e : E} {p : Pt} (he : Rep e p) : e.y * inv e.z = p.2 := by rw [he.y]; exact x6q P _ _ _ (z2f he.z)
structure T3 where
 x : F
 y : F
 z : F
structure j3m (e : T3) (p : Pt) : Prop where
 z : e.z ≠ 0
 x : e.x = p.1 * e.z
 y : e.y = p.2 * e.z
end Ed
namespace Ed
def e8 : Nat := 7237005577332262213973186563042994240829374041602535252466099000494570602493
theorem q8t {g : F} (hg : g ≠ 0) : z2r g 28948022309329048855892746252171976963317496166410141009864396001978282409974 = 1 ∨ z2r g 28948022309329048855892746252171976963317496166410141009864396001978282409974 = -1 := by
 have h := y6b hg
 rw [show P - 1 = 28948022309329048855892746252171976963317496166410141009864396001978282409974 + 28948022309329048855892746252171976963317496166410141009864396001978282409974 from by decide, z2m] at h
 generalize z2r g 28948022309329048855892746252171976963317496166410141009864396001978282409974 = s at *
 have h2 : (s - 1) * (s + 1) = 0 := by
  have : ∀ (n : Nat) [NeZero n] (s : Fin n), s * s = 1 → (s - 1) * (s + 1) = 0 := by intro n _ s h; grind
  exact this P s h
 rcases z1s h2 with h3 | h3
 ·left
  have : ∀ (n : Nat) [NeZero n] (s : Fin n), s - 1 = 0 → s = 1 := by intro n _ s h; grind
  exact this P s h3
 ·right
  have : ∀ (n : Nat) [NeZero n] (s : Fin n), s + 1 = 0 → s = -1 := by intro n _ s h; grind
  exact this P s h3
def z9v (u v : F) : F := u * (v * v * v) * z2r (u * (v * v * v * (v * v * v) * v)) e8
def y1l (u v r : F) : F × Bool := if v * (r * r) = u then (r, true) else if v * (r * r) = 0 - u then (r * iI, true) else (0, false)
def z9w (u v : F) : F × Bool := y1l u v (z9v u v)
theorem k4p (n : Nat) [NeZero n] (u v r i : Fin n) (hi : i * i = -1) (h : v * (r * r) = 0 - u) : v * (r * i * (r * i)) = u := by grind
theorem x4p {u v r : F} (h : (y1l u v r).2 = true) : v * ((y1l u v r).1 * (y1l u v r).1) = u := by
 unfold y1l at *
 by_cases h1 : v * (r * r) = u
 ·rw [if_pos h1]; exact h1
 ·rw [if_neg h1] at *
  by_cases h2 : v * (r * r) = 0 - u
  ·rw [if_pos h2]; exact k4p P u v _ iI x6w h2
  ·rw [if_neg h2] at h; cases h
theorem y9l {u v r : F} (h : (y1l u v r).2 = false) : v * (r * r) ≠ u ∧ v * (r * r) ≠ 0 - u := by
 unfold y1l at h
 by_cases h1 : v * (r * r) = u
 ·rw [if_pos h1] at h; cases h
 ·rw [if_neg h1] at h
  by_cases h2 : v * (r * r) = 0 - u
  ·rw [if_pos h2] at h; cases h
  ·exact ⟨h1, h2⟩
theorem y2z {u v : F} (h : (z9w u v).2 = true) : v * ((z9w u v).1 * (z9w u v).1) = u := x4p (r := z9v u v) h
theorem k4m (n : Nat) [NeZero n] (v a b c : Fin n) (u : Fin n) (hu : u = 0) : v * (u * a * b * (u * a * c)) = u := by grind
theorem k4n (n : Nat) [NeZero n] (v x : Fin n) : v * (x * x) * (v * v * v * (v * v * v) * v) = v * v * (v * v) * x * (v * v * (v * v) * x) := by grind
theorem k4o (n : Nat) [NeZero n] (u v s k : Fin n) (h : k = u * (v * v * v * (v * v * v) * v)) : v * (u * (v * v * v) * s * (u * (v * v * v) * s)) = u * (k * (s * s)) := by grind
theorem k4i (n : Nat) [NeZero n] (u k : Fin n) (h : k = -1) : u * k = 0 - u := by grind
theorem k4h (n : Nat) [NeZero n] (u k : Fin n) (h : k = 1) : u * k = u := by grind
theorem q4d {u v x : F} (hv : v ≠ 0) (hx : x ≠ 0) (h : v * (x * x) = u) : v * (z9v u v * z9v u v) = u ∨ v * (z9v u v * z9v u v) = 0 - u := by
 have hk : u * (v * v * v * (v * v * v) * v) = v * v * (v * v) * x * (v * v * (v * v) * x) := by rw [← h]; exact k4n P v x
 have hg : v * v * (v * v) * x ≠ 0 := z3u (z3u (z3u hv hv) (z3u hv hv)) hx
 have hr := k4o P u v (z2r (u * (v * v * v * (v * v * v) * v)) e8) _ rfl
 rw [show v * (z9v u v * z9v u v) = v * (u * (v * v * v) * z2r (u * (v * v * v * (v * v * v) * v)) e8 * (u * (v * v * v) * z2r (u * (v * v * v * (v * v * v) * v)) e8)) from rfl, hr, hk]
 generalize v * v * (v * v) * x = g at hg
 have hs : g * g * (z2r (g * g) e8 * z2r (g * g) e8) = z2r g 28948022309329048855892746252171976963317496166410141009864396001978282409974 := by
  have e1 : g * g = z2r g 2 := by rw [show (2 : Nat) = 1 + 1 from rfl, z2m, z5i]
  rw [e1, z7z, ← z2m, ← z2m]
  congr 1
 rw [hs]
 rcases q8t hg with h1 | h1
 ·left; exact k4h P u _ h1
 ·right; exact k4i P u _ h1
theorem k4r (n : Nat) [NeZero n] (u v x : Fin n) (h0 : x = 0) (h : v * (x * x) = u) : u = 0 := by grind
theorem x4o {u v : F} (hu : u = 0) : v * (z9v u v * z9v u v) = u := k4m P v _ _ _ u hu
theorem y9k {u v : F} (hv : v ≠ 0) (h : (z9w u v).2 = false) (x : F) : v * (x * x) ≠ u := by
 intro hx
 have hn := y9l (r := z9v u v) h
 by_cases h0 : x = 0
 ·exact hn.1 (x4o (k4r P u v x h0 hx))
 ·rcases q4d hv h0 hx with h3 | h3
  ·exact hn.1 h3
  ·exact hn.2 h3
def vy (y : F) : F := dD * (y * y) + 1
def uy (y : F) : F := y * y - 1
theorem k4s (n : Nat) [NeZero n] (y c d i : Fin n) (h : d * c = 1) (hi : i * i = -1) (h0 : d * (y * y) + 1 = 0) : i * y * (i * y) = c := by
 have : y * y = -c := by
  have : c * (d * (y * y) + 1) = 0 := by rw [h0]; grind
  grind
 grind
theorem k7g (y : F) : vy y ≠ 0 := fun h => z9e (iI * y) (k4s P y cC dD iI y0p x6w h)
theorem y8t (n : Nat) [NeZero n] (x y c d : Fin n) (h : d * c = 1) (ho : x * x * (y * y) = c * (y * y - x * x - 1)) : (d * (y * y) + 1) * (x * x) = y * y - 1 := by
 have e : d * (x * x * (y * y)) = y * y - x * x - 1 := by rw [ho]; grind
 grind
theorem y8u (n : Nat) [NeZero n] (x y c d : Fin n) (h : d * c = 1) (ho : (d * (y * y) + 1) * (x * x) = y * y - 1) : x * x * (y * y) = c * (y * y - x * x - 1) := by
 have e : c * (d * (y * y) * (x * x)) = x * x * (y * y) := by grind
 have e2 : d * (y * y) * (x * x) = y * y - x * x - 1 := by grind
 rw [← e, e2]
theorem y6v (x y : F) : OnP (x, y) ↔ vy y * (x * x) = uy y := ⟨fun h => y8t P x y cC dD y0p h, fun h => y8u P x y cC dD y0p h⟩
def z5t (x : F) : Bool := x.val % 2 == 1
def z3o (r : F × Bool) (odd : Bool) : F × Bool := if r.2 = false then (0, false) else if z5t r.1 = odd then (r.1, true) else (0 - r.1, z5t (0 - r.1) == odd)
def z1q (y : F) (odd : Bool) : F × Bool := z3o (z9w (uy y) (vy y)) odd
theorem q9v {x : F} (h : x ≠ 0) : (0 - x).val = P - x.val := by
 have h1 : x.val ≠ 0 := fun h0 => h (Fin.ext h0)
 show (P - x.val + 0) % P = _
 rw [Nat.add_zero]
 exact Nat.mod_eq_of_lt (by have := x.isLt; omega)
theorem q9w {x : F} (h : x ≠ 0) : z5t (0 - x) = !z5t x := by
 have h1 := x.isLt
 unfold z5t
 rw [q9v h]
 have hP : P % 2 = 1 := by decide
 rcases Nat.mod_two_eq_zero_or_one x.val with h2 | h2
 ·have : (P - x.val) % 2 = 1 := by omega
  rw [h2, this]; rfl
 ·have : (P - x.val) % 2 = 0 := by omega
  rw [h2, this]; rfl
theorem x6s (n : Nat) [NeZero n] (v x : Fin n) : v * ((0 - x) * (0 - x)) = v * (x * x) := by grind
theorem y5q {r : F × Bool} {odd : Bool} (h : (z3o r odd).2 = true) : r.2 = true ∧ ((z3o r odd).1 = r.1 ∨ (z3o r odd).1 = 0 - r.1) ∧ z5t (z3o r odd).1 = odd := by
 unfold z3o at *
 by_cases h1 : r.2 = false
 ·rw [if_pos h1] at h; cases h
 ·rw [if_neg h1] at *
  have h1' : r.2 = true := by simpa using h1
  by_cases h2 : z5t r.1 = odd
  ·rw [if_pos h2]; exact ⟨h1', .inl rfl, h2⟩
  ·rw [if_neg h2] at *
   exact ⟨h1', .inr rfl, eq_of_beq h⟩
theorem y3g {r : F × Bool} {odd : Bool} (h : (z3o r odd).2 = false) : r.2 = false ∨ z5t r.1 ≠ odd ∧ z5t (0 - r.1) ≠ odd := by
 unfold z3o at h
 by_cases h1 : r.2 = false
 ·exact .inl h1
 ·rw [if_neg h1] at h
  by_cases h2 : z5t r.1 = odd
  ·rw [if_pos h2] at h; cases h
  ·rw [if_neg h2] at h
   exact .inr ⟨h2, fun h3 => by rw [beq_iff_eq.2 h3] at h; cases h⟩
theorem y5p {y : F} {odd : Bool} (h : (z1q y odd).2 = true) : OnP ((z1q y odd).1, y) ∧ z5t (z1q y odd).1 = odd := by
 obtain ⟨h1, h2, h3⟩ := y5q (r := z9w (uy y) (vy y)) h
 have hr := y2z h1
 refine ⟨(y6v _ _).2 ?_, h3⟩
 unfold z1q
 rcases h2 with h2 | h2
 ·rw [h2]; exact hr
 ·rw [h2, x6s P]; exact hr
theorem q1z (n : Nat) [NeZero n] (v a b u : Fin n) (h1 : v * (a * a) = u) (h2 : v * (b * b) = u) : v * ((a - b) * (a + b)) = 0 := by grind
theorem k3u (n : Nat) [NeZero n] (a b : Fin n) (h : a - b = 0) : a = b := by grind
theorem k3v (n : Nat) [NeZero n] (a b : Fin n) (h : a + b = 0) : a = 0 - b := by grind
theorem y1n {a b y : F} (h1 : OnP (a, y)) (h2 : OnP (b, y)) : a = b ∨ a = 0 - b := by
 have h3 := q1z P (vy y) a b (uy y) ((y6v _ _).1 h1) ((y6v _ _).1 h2)
 rcases z1s h3 with h | h
 ·exact absurd h (k7g y)
 ·rcases z1s h with h | h
  ·exact .inl (k3u P _ _ h)
  ·exact .inr (k3v P _ _ h)
theorem x8a {a b y : F} (h1 : OnP (a, y)) (h2 : OnP (b, y)) (ho : z5t a = z5t b) : a = b := by
 rcases y1n h1 h2 with h | h
 ·exact h
 ·by_cases h0 : b = 0
  ·rw [h, h0]; rfl
  ·rw [h, q9w h0] at ho
   cases hb : z5t b <;> rw [hb] at ho <;> cases ho
theorem y3f {y : F} {odd : Bool} (h : (z1q y odd).2 = false) (x : F) (hx : OnP (x, y)) : z5t x ≠ odd := by
 intro ho
 cases h1 : (z9w (uy y) (vy y)).2 with
 | false => exact y9k (k7g y) h1 x ((y6v _ _).1 hx)
 | true =>
  have hr := (y6v _ _).2 (y2z h1)
  rcases y3g (r := z9w (uy y) (vy y)) h with h2 | h2
  ·rw [h1] at h2; cases h2
  ·rcases y1n hx hr with h4 | h4
   ·exact h2.1 (by rw [← h4]; exact ho)
   ·exact h2.2 (by rw [← h4]; exact ho)
end Ed
open Go.RowKit
namespace Fw
open Bt
attribute [local go_sem] z2c z3k z3j z2y z3m
attribute [local go_sem] UV.z6q UV.z5u UV.z6r UV.z6s UV.z4x UV.y1w UV.z3z UV.z4m UV.z5v UV.z3n UV.z1c z2x z3l x0c
theorem q0o (a : Q) (n : BitVec 64) (w : World) :
  Calls Tryz.prog 242 #[.int .u64 0, .int .u64 0, .int .u64 0, .int .u64 0, .int .u64 (un a.a0), .int .u64 (un a.a1), .int .u64 (un a.a2), .int .u64 (un a.a3), .int .u64 (un n)] w
   fun e w' => e = .returned (.tuple #[.int .u64 (un (r0 zQ a n)), .int .u64 (un (r1 zQ a n)), .int .u64 (un (r2 zQ a n)), .int .u64 (un (r3 zQ a n)), .int .u64 (un (r4 zQ a n))]) ∧ w' = w := z5c zQ a n w
theorem x5j (p a : Q) (w : World) :
  Calls Tryz.prog 242 #[.int .u64 (un p.a0), .int .u64 (un p.a1), .int .u64 (un p.a2), .int .u64 (un p.a3), .int .u64 (un a.a0), .int .u64 (un a.a1), .int .u64 (un a.a2), .int .u64 (un a.a3), .int .u64 38] w
   fun e w' => e = .returned (.tuple #[.int .u64 (un (r0 p a 38#64)), .int .u64 (un (r1 p a 38#64)), .int .u64 (un (r2 p a 38#64)), .int .u64 (un (r3 p a 38#64)), .int .u64 (un (r4 p a 38#64))]) ∧ w' = w := z5c p a 38#64 w
def k3s (x0 x1 x2 x3 x4 : BitVec 64) : Q := ⟨x0 + 19#64 * (x4 <<< 1 ||| x3 >>> 63) + bv false, x1 + bv (carry x0 (19#64 * (x4 <<< 1 ||| x3 >>> 63)) false), x2 + bv (carry x1 0#64 (carry x0 (19#64 * (x4 <<< 1 ||| x3 >>> 63)) false)), (x3 &&& 9223372036854775807#64) + bv (carry x2 0#64 (carry x1 0#64 (carry x0 (19#64 * (x4 <<< 1 ||| x3 >>> 63)) false)))⟩
theorem q8g (a b : Q) : k3s (t0 a b) (t1 a b) (t2 a b) (t3 a b) (t4 a b) = k5p a b := rfl
theorem below_drewN (k : Nat) (w : World) (n : Nat) : Below k w (w.drewN n) := ⟨rfl, rfl, rfl, Nat.le_refl _, fun _ _ => rfl⟩
theorem k6l (x : BitVec 64) : un x / (9223372036854775808 : Int) = un (x >>> (63 : Nat)) := UV.z3z x 63
attribute [local go_sem] k6l
theorem j3e (x : BitVec 64) : IntKind.u64.wrap (un x * 2) = un (x <<< 1) := UV.z4m x 1
set_option maxHeartbeats 400000 in
set_option maxRecDepth 100000 in
theorem q9s (a b : Q) (w : World) :
  Calls Tryz.prog 179 #[.agg a.cells, .agg b.cells] w fun e w' => ∃ r : Q, e = .returned (.agg r.cells) ∧ r.num = (a.num * b.num) % PP ∧ Below w.heap.size w w' := by
 have HN : Hid _ := (x1l a b).2
 have HS : Hid _ := (x1l a b).1
 unfold Q.cells
 go_enter Tryz.func179, Tryz.ntmps179
 go_wp2_with fail
 refine wp_region_quiet_lit (by kernel_rfl) (by kernel_rfl) ?_
 repeat (first | go_big_quiet_step (fail) | quiet_step (fail))
 refine wpQuiet_nil ?_
 intro _ hw'
 obtain ⟨nq, hw''⟩ := hw'
 subst hw''
 go_wp2_with fail
 refine (q0o a b.a0 _).mono ?_
 rintro e w1 ⟨rfl, rfl⟩
 go_wp2_with fail
 refine (z5c (q1 a b) a b.a1 _).mono ?_
 rintro e w1 ⟨rfl, rfl⟩
 go_wp2_with fail
 refine (z5c (q2 a b) a b.a2 _).mono ?_
 rintro e w1 ⟨rfl, rfl⟩
 go_wp2_with fail
 refine (z5c (q3 a b) a b.a3 _).mono ?_
 rintro e w1 ⟨rfl, rfl⟩
 go_wp2_with fail
 refine (x5j (lw a b) (q4 a b) _).mono ?_
 rintro e w1 ⟨rfl, rfl⟩
 have HF : Hid _ := q8g a b
 unfold t0 t1 t2 t3 t4 at HF
 generalize r0 (lw a b) (q4 a b) 38#64 = x0 at HF ⊢
 generalize r1 (lw a b) (q4 a b) 38#64 = x1 at HF ⊢
 generalize r2 (lw a b) (q4 a b) 38#64 = x2 at HF ⊢
 generalize r3 (lw a b) (q4 a b) 38#64 = x3 at HF ⊢
 generalize r4 (lw a b) (q4 a b) 38#64 = x4 at HF ⊢
 have hand := y3k x3
 have h1 := j3e x4
 go_wp2_with fail
 refine (y3a (k3s x0 x1 x2 x3 x4) (by rw [HF.out]; exact HS.out) _).mono ?_
 rintro e w1 ⟨r, rfl, hr, hb⟩
 have HR : Hid _ := hr
 have HB : Hid _ := hb
 clear hr hb hand h1
 have HG : Hid (w1.heap[w.heap.size + 1 + 1]? = some (.cells z0l 161 (0, 0))) := (HB.out.block _ (by simp [World.drewN])).trans (by
  have := heap_alloc_new ((w.alloc (.cells a.cells 161)).alloc (.cells b.cells 161)) (.cells z0l 161)
  simp only [World.size_alloc] at this
  exact this)
 go_wp2_with (refine wpList_store_row rfl 161 _ _ rfl (w.heap.size + 1 + 1) r.cells rfl rfl 161 z0l HG.out (by kernel_rfl) rfl r.cells_one ?_)
 refine Own.z1g Tryz.results179 rfl (w.heap.size + 1 + 1) 161 r.cells (0, 0) _ rfl (setRow_heap _ _ _ _ _ _ HG.out) Tryz.underlying161 rfl (by kernel_rfl) ⟨r, rfl, by rw [HR.out, HF.out, HN.out], ?_⟩
 have h3 : Below w.heap.size w ((((w.alloc (.cells a.cells 161)).alloc (.cells b.cells 161)).alloc (.cells z0l 161)).drewN nq) := ((((Below.refl _ _).alloc (Nat.le_refl _) _).alloc (by simp) _).alloc (by simp; omega) _).trans (below_drewN _ _ nq)
 exact (h3.trans (HB.out.mono h3.size)).trans ((z0a _ _ _).mono (by omega))
theorem Q.q8c {a b : Q} (h : a.num = b.num) : a = b := by
 obtain ⟨a0, a1, a2, a3⟩ := a
 obtain ⟨b0, b1, b2, b3⟩ := b
 unfold Q.num at h
 simp only at h
 have i0 := a0.isLt
 have i1 := a1.isLt
 have i2 := a2.isLt
 have j0 := b0.isLt
 have j1 := b1.isLt
 have j2 := b2.isLt
 have e0 : a0 = b0 := BitVec.eq_of_toNat_eq (by omega)
 have e1 : a1 = b1 := BitVec.eq_of_toNat_eq (by omega)
 have e2 : a2 = b2 := BitVec.eq_of_toNat_eq (by omega)
 have e3 : a3 = b3 := BitVec.eq_of_toNat_eq (by omega)
 rw [e0, e1, e2, e3]
def nq (n : Nat) : Q := ⟨BitVec.ofNat 64 n, BitVec.ofNat 64 (n / 18446744073709551616), BitVec.ofNat 64 (n / 340282366920938463463374607431768211456), BitVec.ofNat 64 (n / 6277101735386680763835789423207666416102355444464034512896)⟩
theorem z3c {n : Nat} (h : n < 115792089237316195423570985008687907853269984665640564039457584007913129639936) : (nq n).num = n := by
 unfold nq Q.num
 simp only [BitVec.toNat_ofNat]
 omega
theorem y2j {q : Q} {n : Nat} (h : q.num = n) : q = nq n := Q.q8c (by rw [z3c (by have := z5r q; omega), h])
theorem k3t : ∃ f : Ed.F → Array Value, ∀ x, f x = (nq x.val).cells := ⟨_, fun _ => rfl⟩
noncomputable def fw : Ed.F → Array Value := Classical.choose k3t
theorem z2t (x : Ed.F) : fw x = (nq x.val).cells := Classical.choose_spec k3t x
theorem z4f (x : Ed.F) : (nq x.val).num = x.val := z3c (Nat.lt_trans x.isLt (by decide))
theorem y6j (x : Ed.F) : (fw x).all (·.oneCell') = true := by rw [z2t]; exact (nq x.val).cells_one
theorem z0w (x : Ed.F) : (fw x).size = 4 := by rw [z2t]; rfl
theorem y3h (x y : Ed.F) (w : World) :
  Calls Tryz.prog 229 #[.agg (fw x), .agg (fw y)] w fun e w' => e = .returned (.agg (fw (x + y))) ∧ Below w.heap.size w w' := by
 rw [z2t, z2t, z2t]
 refine (q7b (nq x.val) (nq y.val) (by rw [z4f]; exact x.isLt) (by rw [z4f]; exact y.isLt) w).mono fun e w' ⟨r, he, hr, hb⟩ => ⟨?_, hb⟩
 rw [z4f, z4f] at hr
 rw [he, y2j hr]; rfl
theorem y2m (x y : Ed.F) (w : World) :
  Calls Tryz.prog 226 #[.agg (fw x), .agg (fw y)] w fun e w' => e = .returned (.agg (fw (x - y))) ∧ Below w.heap.size w w' := by
 rw [z2t, z2t, z2t]
 refine (k1r (nq x.val) (nq y.val) (by rw [z4f]; exact x.isLt) (by rw [z4f]; exact y.isLt) w).mono fun e w' ⟨r, he, hr, hb⟩ => ⟨?_, hb⟩
 rw [z4f, z4f] at hr
 have hy := y.isLt
 have e1 : (x - y).val = (x.val + PP - y.val) % PP := by
  show (PP - y.val + x.val) % PP = _
  have hy' : y.val < PP := hy
  congr 1
  omega
 rw [he, y2j hr, ← e1]
theorem z3x (x y : Ed.F) (w : World) :
  Calls Tryz.prog 179 #[.agg (fw x), .agg (fw y)] w fun e w' => e = .returned (.agg (fw (x * y))) ∧ Below w.heap.size w w' := by
 rw [z2t, z2t, z2t]
 refine (q9s (nq x.val) (nq y.val) w).mono fun e w' ⟨r, he, hr, hb⟩ => ⟨?_, hb⟩
 rw [z4f, z4f] at hr
 rw [he, y2j hr]; rfl
end Fw
end Go.Proofs.YtbojijefenfbgaaGreatDoor
