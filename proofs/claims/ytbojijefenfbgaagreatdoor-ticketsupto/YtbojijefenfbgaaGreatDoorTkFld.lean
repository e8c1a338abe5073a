/- The field of P = 2^255 - 19 elements, and that D is no square in it. Plain mathematics: it imports nothing of the program. -/
/- The points of the curve and their sum: a group. Plain mathematics. -/
/- Points by four coordinates (the program's) and by three (the document's) stand for points of the curve; sums and doubles of them for sums. -/
import Derived.Test.YtbojijefenfbgaaGreatDoorTkDocA
namespace Go.Proofs.YtbojijefenfbgaaGreatDoor
namespace Ed

abbrev P : Nat := 57896044618658097711785492504343953926634992332820282019728792003956564819949
abbrev F := Fin P

theorem P_prime : Nt.IsPrime P := Nt.prime_P
theorem val_mul (a b : F) : (a * b).val = a.val * b.val % P := rfl
theorem mul_zero_cases {a b : F} (h : a * b = 0) : a = 0 ∨ b = 0 := by
  have h1 : a.val * b.val % P = 0 := by
    have := congrArg Fin.val h
    rw [val_mul] at this
    exact this
  rcases P_prime.dvd_mul (Nat.dvd_of_mod_eq_zero h1) with hd | hd
  · left
    apply Fin.ext
    rcases Nat.eq_zero_or_pos a.val with h0 | h0
    · rw [h0]; rfl
    · exact absurd (Nat.le_of_dvd h0 hd) (by have := a.isLt; omega)
  · right
    apply Fin.ext
    rcases Nat.eq_zero_or_pos b.val with h0 | h0
    · rw [h0]; rfl
    · exact absurd (Nat.le_of_dvd h0 hd) (by have := b.isLt; omega)
theorem mul_ne {a b : F} (ha : a ≠ 0) (hb : b ≠ 0) : a * b ≠ 0 := fun h => (mul_zero_cases h).elim ha hb
theorem mul_cancel {a b c : F} (ha : a ≠ 0) (h : a * b = a * c) : b = c := by
  have h1 : a * (b - c) = 0 := by grind
  rcases mul_zero_cases h1 with h2 | h2
  · exact absurd h2 ha
  · grind

/-- a to the power e. -/
def fpow (a : F) (e : Nat) : F := ⟨a.val ^ e % P, Nat.mod_lt _ (by decide)⟩
theorem fpow_zero (a : F) : fpow a 0 = 1 := by
  apply Fin.ext; show a.val ^ 0 % P = _; rw [Nat.pow_zero]; rfl
theorem fpow_one (a : F) : fpow a 1 = a := by
  apply Fin.ext; show a.val ^ 1 % P = _; rw [Nat.pow_one]; exact Nat.mod_eq_of_lt a.isLt
theorem fpow_add (a : F) (e k : Nat) : fpow a (e + k) = fpow a e * fpow a k := by
  apply Fin.ext
  show a.val ^ (e + k) % P = (a.val ^ e % P) * (a.val ^ k % P) % P
  rw [Nat.pow_add, Nat.mul_mod]
theorem fpow_mul (a : F) (e k : Nat) : fpow (fpow a e) k = fpow a (e * k) := by
  apply Fin.ext
  show (a.val ^ e % P) ^ k % P = a.val ^ (e * k) % P
  rw [← Nat.pow_mod, Nat.pow_mul]
theorem fpow_base (a b : F) (e : Nat) : fpow (a * b) e = fpow a e * fpow b e := by
  apply Fin.ext
  show (a.val * b.val % P) ^ e % P = (a.val ^ e % P) * (b.val ^ e % P) % P
  rw [← Nat.pow_mod, Nat.mul_pow, Nat.mul_mod]
theorem fpow_eval (a : F) (e f v : Nat) (h : e < 2 ^ f) (hv : Nt.powMod P f a.val e = v) : (fpow a e).val = v := by
  rw [← hv, Nt.powMod_eq P f a.val e h]; rfl
theorem fermat {a : F} (ha : a ≠ 0) : fpow a (P - 1) = 1 := by
  apply Fin.ext
  show a.val ^ (P - 1) % P = _
  rw [Nt.fermat_one P_prime a.val (fun hd => ha ?_)]
  · rfl
  · apply Fin.ext
    rcases Nat.eq_zero_or_pos a.val with h0 | h0
    · rw [h0]; rfl
    · exact absurd (Nat.le_of_dvd h0 hd) (by have := a.isLt; omega)

/-- 1 / a, and 0 for 0. -/
def inv (a : F) : F := fpow a (P - 2)
theorem mul_inv {a : F} (ha : a ≠ 0) : a * inv a = 1 := by
  have h := fermat ha
  rw [show P - 1 = 1 + (P - 2) by decide, fpow_add, fpow_one] at h
  exact h
theorem inv_unique {a b : F} (h : a * b = 1) : b = inv a := by
  have ha : a ≠ 0 := fun h0 => by rw [h0] at h; exact absurd (show (0 : F) = 1 by grind) (by decide)
  have h1 := mul_inv ha
  exact mul_cancel ha (by rw [h, h1])
theorem inv_ne {a : F} (ha : a ≠ 0) : inv a ≠ 0 := fun h0 => by
  have := mul_inv ha
  rw [h0] at this
  exact absurd (show (0 : F) = 1 by grind) (by decide)

/-- D of the curve, 1 / D, and a root of -1. -/
def dD : F := ⟨37095705934669439343138083508754565189542113879843219016388785533085940283555, by decide⟩
def cC : F := ⟨29203323570479832313932222820853031755424015489030106335172286495629888845891, by decide⟩
def iI : F := ⟨19681161376707505956807079304988542015446066515923890162744021073123829784752, by decide⟩
theorem dD_cC : dD * cC = 1 := by decide
theorem iI_sq : iI * iI = -1 := by decide
theorem cC_ne : cC ≠ 0 := by decide
theorem two_ne : (2 : F) ≠ 0 := by decide
theorem dD_pow : fpow dD 28948022309329048855892746252171976963317496166410141009864396001978282409974 = -1 := by
  apply Fin.ext
  rw [fpow_eval dD 28948022309329048855892746252171976963317496166410141009864396001978282409974 256 57896044618658097711785492504343953926634992332820282019728792003956564819948 (by decide) (by kernel_rfl)]
  rfl
theorem dD_nonsquare (x : F) : x * x ≠ dD := fun h => by
  have hx : x ≠ 0 := fun h0 => by rw [h0] at h; exact absurd (show (0 : F) = dD by grind) (by decide)
  have h1 := dD_pow
  rw [← h] at h1
  have h2 : fpow (x * x) 28948022309329048855892746252171976963317496166410141009864396001978282409974 = 1 := by
    have e : x * x = fpow x 2 := by rw [show (2 : Nat) = 1 + 1 from rfl, fpow_add, fpow_one]
    rw [e, fpow_mul, show 2 * 28948022309329048855892746252171976963317496166410141009864396001978282409974 = P - 1 by decide]
    exact fermat hx
  rw [h2] at h1
  exact absurd h1 (by decide)
/-- 1 / D is no square either. -/
theorem cC_nonsquare (x : F) : x * x ≠ cC := fun h => by
  have hd := dD_cC
  refine dD_nonsquare (x * dD) ?_
  grind

/-- A point of the curve. -/
def On (x y : F) : Prop := x * x * (y * y) = cC * (y * y - x * x - 1)

theorem gen_m (n : Nat) [NeZero n] (e m c : Fin n) (he : e * e = 1) (h0 : c + e * m = 0) : m = -(e * c) := by grind
theorem gen_key (n : Nat) [NeZero n] (x1 y1 x2 y2 e i c : Fin n) (h1 : x1 * x1 * (y1 * y1) = c * (y1 * y1 - x1 * x1 - 1)) (h2 : x2 * x2 * (y2 * y2) = c * (y2 * y2 - x2 * x2 - 1)) (he : e * e = 1) (hi : i * i = -1)
    (hm : x1 * x2 * y1 * y2 = -(e * c)) : c * (c * ((i * x1 - e * y1) * (i * x1 - e * y1))) = c * ((x1 * y1 * (y2 + i * x2)) * (x1 * y1 * (y2 + i * x2))) := by grind
theorem gen_neg (n : Nat) [NeZero n] (i : Fin n) (hi : i * i = -1) : (-i) * (-i) = -1 := by grind
theorem gen_zero_m (n : Nat) [NeZero n] (x1 y1 x2 y2 : Fin n) (h : x1 * y1 = 0) : x1 * x2 * y1 * y2 = 0 := by grind
theorem gen_neg_zero (n : Nat) [NeZero n] (a : Fin n) (h : 0 = -a) : a = 0 := by grind
theorem gen_sq (n : Nat) [NeZero n] (c u v w : Fin n) (h : c * (u * u) = v * v) (hw : u * w = 1) : (v * w) * (v * w) = c := by grind
theorem gen_two (n : Nat) [NeZero n] (i x y : Fin n) (h1 : y + i * x = 0) (h2 : y + -i * x = 0) : 2 * y = 0 := by grind
theorem gen_ix (n : Nat) [NeZero n] (i x y : Fin n) (hi : i * i = -1) (h1 : y + i * x = 0) (hy : y = 0) : x = 0 := by grind
theorem gen_c (n : Nat) [NeZero n] (c x y : Fin n) (hx : x = 0) (hy : y = 0) (h : x * x * (y * y) = c * (y * y - x * x - 1)) : c = 0 := by grind
theorem gen_mul0 (n : Nat) [NeZero n] (c u : Fin n) (h : u = 0) : c * (u * u) = 0 := by grind

theorem no_key {x1 y1 x2 y2 : F} (h1 : On x1 y1) (h2 : On x2 y2) (e i : F) (he : e * e = 1) (hi : i * i = -1) (hm : x1 * x2 * y1 * y2 = -(e * cC)) (hx1 : x1 * y1 ≠ 0) : y2 + i * x2 = 0 := by
  have key := mul_cancel cC_ne (gen_key P x1 y1 x2 y2 e i cC h1 h2 he hi hm)
  refine Classical.byContradiction fun hne => ?_
  have hv : x1 * y1 * (y2 + i * x2) ≠ 0 := mul_ne hx1 hne
  by_cases hu : i * x1 - e * y1 = 0
  · have : cC * ((i * x1 - e * y1) * (i * x1 - e * y1)) = 0 := gen_mul0 P _ _ hu
    rw [this] at key
    exact mul_ne hv hv key.symm
  · exact cC_nonsquare _ (gen_sq P cC _ _ _ key (mul_inv hu))

/-- No divisor of the sum is ever 0. -/
theorem complete {x1 y1 x2 y2 : F} (h1 : On x1 y1) (h2 : On x2 y2) (e : F) (he : e * e = 1) : cC + e * (x1 * x2 * y1 * y2) ≠ 0 := fun h0 => by
  have hm := gen_m P e _ cC he h0
  have hx1 : x1 * y1 ≠ 0 := fun hz => by
    rw [gen_zero_m P x1 y1 x2 y2 hz] at hm
    rcases mul_zero_cases (gen_neg_zero P _ hm) with h | h
    · rw [h] at he; exact absurd he (by decide)
    · exact cC_ne h
  have k1 := no_key h1 h2 e iI he iI_sq hm hx1
  have k2 := no_key h1 h2 e (-iI) he (gen_neg P iI iI_sq) hm hx1
  rcases mul_zero_cases (gen_two P iI x2 y2 k1 k2) with h | hy
  · exact two_ne h
  · exact cC_ne (gen_c P cC x2 y2 (gen_ix P iI x2 y2 iI_sq k1 hy) hy h2)
end Ed
end Go.Proofs.YtbojijefenfbgaaGreatDoor
namespace Go.Proofs.YtbojijefenfbgaaGreatDoor
namespace Ed

/-- A point's coordinates. -/
abbrev Pt := F × F
def OnP (p : Pt) : Prop := On p.1 p.2
def zero : Pt := (0, 1)
def neg (p : Pt) : Pt := (-p.1, p.2)
def mm (p q : Pt) : F := p.1 * q.1 * p.2 * q.2
def padd (p q : Pt) : Pt := (cC * (p.1 * q.2 + p.2 * q.1) * inv (cC + mm p q), cC * (p.2 * q.2 + p.1 * q.1) * inv (cC - mm p q))

theorem gen_e1 (n : Nat) [NeZero n] (c m : Fin n) : c + 1 * m = c + m := by grind
theorem gen_e2 (n : Nat) [NeZero n] (c m : Fin n) : c + (-1) * m = c - m := by grind
theorem den1 {p q : Pt} (hp : OnP p) (hq : OnP q) : cC + mm p q ≠ 0 := by
  have h := complete hp hq 1 (by decide)
  rw [gen_e1] at h; exact h
theorem den2 {p q : Pt} (hp : OnP p) (hq : OnP q) : cC - mm p q ≠ 0 := by
  have h := complete hp hq (-1) (by decide)
  rw [gen_e2] at h; exact h

theorem gen_on (n : Nat) [NeZero n] (c x1 y1 x2 y2 : Fin n) (h1 : x1 * x1 * (y1 * y1) = c * (y1 * y1 - x1 * x1 - 1)) (h2 : x2 * x2 * (y2 * y2) = c * (y2 * y2 - x2 * x2 - 1)) :
    c * c * c * ((x1 * y2 + y1 * x2) * (x1 * y2 + y1 * x2)) * ((y1 * y2 + x1 * x2) * (y1 * y2 + x1 * x2)) = c * c * ((y1 * y2 + x1 * x2) * (y1 * y2 + x1 * x2)) * ((c + x1 * x2 * y1 * y2) * (c + x1 * x2 * y1 * y2)) - c * c * ((x1 * y2 + y1 * x2) * (x1 * y2 + y1 * x2)) * ((c - x1 * x2 * y1 * y2) * (c - x1 * x2 * y1 * y2)) - (c + x1 * x2 * y1 * y2) * (c + x1 * x2 * y1 * y2) * ((c - x1 * x2 * y1 * y2) * (c - x1 * x2 * y1 * y2)) := by grind
theorem gen_on2 (n : Nat) [NeZero n] (c N M A B u v : Fin n) (hu : A * u = 1) (hv : B * v = 1) (h : c * c * c * (N * N) * (M * M) = c * c * (M * M) * (A * A) - c * c * (N * N) * (B * B) - A * A * (B * B)) :
    (c * N * u) * (c * N * u) * ((c * M * v) * (c * M * v)) = c * ((c * M * v) * (c * M * v) - (c * N * u) * (c * N * u) - 1) := by
  have e : c * (c * c * c * (N * N) * (M * M)) * (u * u) * (v * v) = c * (c * c * (M * M) * (A * A) - c * c * (N * N) * (B * B) - A * A * (B * B)) * (u * u) * (v * v) := by rw [h]
  have e1 : (A * A) * (u * u) = 1 := by grind
  have e2 : (B * B) * (v * v) = 1 := by grind
  clear h hu hv
  grind
theorem padd_on {p q : Pt} (hp : OnP p) (hq : OnP q) : OnP (padd p q) :=
  gen_on2 P cC _ _ _ _ _ _ (mul_inv (den1 hp hq)) (mul_inv (den2 hp hq)) (gen_on P cC p.1 p.2 q.1 q.2 hp hq)
theorem zero_on : OnP zero := by unfold OnP On zero; grind
theorem neg_on {p : Pt} (hp : OnP p) : OnP (neg p) := by
  unfold OnP On neg at *
  have : -p.1 * -p.1 = p.1 * p.1 := by grind
  simp only [this]; exact hp
theorem padd_comm (p q : Pt) : padd p q = padd q p := by
  have h : mm p q = mm q p := by unfold mm; grind
  have h1 : p.1 * q.2 + p.2 * q.1 = q.1 * p.2 + q.2 * p.1 := by grind
  have h2 : p.2 * q.2 + p.1 * q.1 = q.2 * p.2 + q.1 * p.1 := by grind
  unfold padd
  rw [h, h1, h2]
theorem gen_z1 (n : Nat) [NeZero n] (c x y u : Fin n) (h : c * u = 1) : c * (x * 1 + y * 0) * u = x := by grind
theorem gen_z2 (n : Nat) [NeZero n] (c x y u : Fin n) (h : c * u = 1) : c * (y * 1 + x * 0) * u = y := by grind
theorem padd_zero (p : Pt) : padd p zero = p := by
  have h : mm p zero = 0 := by unfold mm zero; grind
  have h1 : cC + 0 = cC := by grind
  have h2 : cC - 0 = cC := by grind
  unfold padd
  rw [h, h1, h2]
  exact Prod.ext (gen_z1 P cC p.1 p.2 _ (mul_inv cC_ne)) (gen_z2 P cC p.1 p.2 _ (mul_inv cC_ne))
theorem zero_padd (p : Pt) : padd zero p = p := by rw [padd_comm, padd_zero]
theorem gen_n1 (n : Nat) [NeZero n] (c x y u : Fin n) : c * (x * y + y * -x) * u = 0 := by grind
theorem gen_n2 (n : Nat) [NeZero n] (c x y u : Fin n) (h : x * x * (y * y) = c * (y * y - x * x - 1)) (hu : (c - x * -x * y * y) * u = 1) : c * (y * y + x * -x) * u = 1 := by grind
theorem padd_neg {p : Pt} (hp : OnP p) : padd p (neg p) = zero := by
  obtain ⟨x, y⟩ := p
  have hd := mul_inv (den2 hp (neg_on hp))
  have h1 : (padd (x, y) (neg (x, y))).1 = 0 := gen_n1 P cC x y _
  have h2 : (padd (x, y) (neg (x, y))).2 = 1 := gen_n2 P cC x y _ hp hd
  exact Prod.ext h1 h2

theorem assocX (n : Nat) [NeZero n] (c x1 y1 x2 y2 x3 y3 : Fin n) (h1 : x1*x1*(y1*y1) = c*(y1*y1 - x1*x1 - 1)) (h2 : x2*x2*(y2*y2) = c*(y2*y2 - x2*x2 - 1)) (h3 : x3*x3*(y3*y3) = c*(y3*y3 - x3*x3 - 1)) :
    ((x1*y2+y1*x2)*(c-x1*x2*y1*y2)*y3 + (y1*y2+x1*x2)*(c+x1*x2*y1*y2)*x3) * ((c+x2*x3*y2*y3)*(c-x2*x3*y2*y3) + c*(x2*y3+y2*x3)*(y2*y3+x2*x3)*x1*y1)
    = ((x2*y3+y2*x3)*(c-x2*x3*y2*y3)*y1 + (y2*y3+x2*x3)*(c+x2*x3*y2*y3)*x1) * ((c+x1*x2*y1*y2)*(c-x1*x2*y1*y2) + c*(x1*y2+y1*x2)*(y1*y2+x1*x2)*x3*y3) := by grind
theorem assocY (n : Nat) [NeZero n] (c x1 y1 x2 y2 x3 y3 : Fin n) (h1 : x1*x1*(y1*y1) = c*(y1*y1 - x1*x1 - 1)) (h2 : x2*x2*(y2*y2) = c*(y2*y2 - x2*x2 - 1)) (h3 : x3*x3*(y3*y3) = c*(y3*y3 - x3*x3 - 1)) :
    ((y1*y2+x1*x2)*(c+x1*x2*y1*y2)*y3 + (x1*y2+y1*x2)*(c-x1*x2*y1*y2)*x3) * ((c+x2*x3*y2*y3)*(c-x2*x3*y2*y3) - c*(x2*y3+y2*x3)*(y2*y3+x2*x3)*x1*y1)
    = ((y2*y3+x2*x3)*(c+x2*x3*y2*y3)*y1 + (x2*y3+y2*x3)*(c-x2*x3*y2*y3)*x1) * ((c+x1*x2*y1*y2)*(c-x1*x2*y1*y2) - c*(x1*y2+y1*x2)*(y1*y2+x1*x2)*x3*y3) := by grind

/-- A sum's coordinates, cleared of two divisors. -/
theorem gen_clear1 (n : Nat) [NeZero n] (c N M A B u v s t w X : Fin n) (hu : A * u = 1) (hv : B * v = 1) (hw : (c + c * N * u * s * (c * M * v) * t) * w = 1) (hX : X = c * (c * N * u * t + c * M * v * s) * w) :
    c * ((A * B + c * N * M * s * t) * X) = c * (c * (N * B * t + M * A * s)) := by
  have e1 : (c * N * u) * A = c * N := by grind
  have e2 : (c * M * v) * B = c * M := by grind
  generalize c * N * u = x at *
  generalize c * M * v = y at *
  have e3 : X * (c + x * s * y * t) = c * (x * t + y * s) := by grind
  have e4 : X * (c + x * s * y * t) * (A * B) = c * (x * t + y * s) * (A * B) := by rw [e3]
  clear hu hv hw hX e3
  grind
theorem gen_clear2 (n : Nat) [NeZero n] (c N M A B u v s t w X : Fin n) (hu : A * u = 1) (hv : B * v = 1) (hw : (c - c * N * u * s * (c * M * v) * t) * w = 1) (hX : X = c * (c * M * v * t + c * N * u * s) * w) :
    c * ((A * B - c * N * M * s * t) * X) = c * (c * (M * A * t + N * B * s)) := by
  have e1 : (c * N * u) * A = c * N := by grind
  have e2 : (c * M * v) * B = c * M := by grind
  generalize c * N * u = x at *
  generalize c * M * v = y at *
  have e3 : X * (c - x * s * y * t) = c * (y * t + x * s) := by grind
  have e4 : X * (c - x * s * y * t) * (A * B) = c * (y * t + x * s) * (A * B) := by rw [e3]
  clear hu hv hw hX e3
  grind
theorem gen_ne1 (n : Nat) [NeZero n] (c N M A B u v s t : Fin n) (hu : A * u = 1) (hv : B * v = 1) (h0 : A * B + c * N * M * s * t = 0) : c + c * N * u * s * (c * M * v) * t = 0 := by
  have e : (A * B + c * N * M * s * t) * (c * u * v) = 0 := by rw [h0]; grind
  have e1 : A * B * (u * v) = 1 := by grind
  clear h0 hu hv
  grind
theorem gen_ne2 (n : Nat) [NeZero n] (c N M A B u v s t : Fin n) (hu : A * u = 1) (hv : B * v = 1) (h0 : A * B - c * N * M * s * t = 0) : c - c * N * u * s * (c * M * v) * t = 0 := by
  have e : (A * B - c * N * M * s * t) * (c * u * v) = 0 := by rw [h0]; grind
  have e1 : A * B * (u * v) = 1 := by grind
  clear h0 hu hv
  grind
/-- The first coordinate of (p + q) + r, and the second, cleared. -/
theorem left1 {p q r : Pt} (hp : OnP p) (hq : OnP q) (hr : OnP r) :
    ((cC + mm p q) * (cC - mm p q) + cC * (p.1 * q.2 + p.2 * q.1) * (p.2 * q.2 + p.1 * q.1) * r.1 * r.2) * (padd (padd p q) r).1 = cC * ((p.1 * q.2 + p.2 * q.1) * (cC - mm p q) * r.2 + (p.2 * q.2 + p.1 * q.1) * (cC + mm p q) * r.1)
    ∧ (cC + mm p q) * (cC - mm p q) + cC * (p.1 * q.2 + p.2 * q.1) * (p.2 * q.2 + p.1 * q.1) * r.1 * r.2 ≠ 0 := by
  have hu := mul_inv (den1 hp hq)
  have hv := mul_inv (den2 hp hq)
  have hne := den1 (padd_on hp hq) hr
  have hw := mul_inv hne
  exact ⟨mul_cancel cC_ne (gen_clear1 P cC (p.1 * q.2 + p.2 * q.1) (p.2 * q.2 + p.1 * q.1) (cC + mm p q) (cC - mm p q) _ _ r.1 r.2 _ _ hu hv hw rfl), fun h0 => hne (gen_ne1 P cC _ _ _ _ _ _ _ _ hu hv h0)⟩
theorem left2 {p q r : Pt} (hp : OnP p) (hq : OnP q) (hr : OnP r) :
    ((cC + mm p q) * (cC - mm p q) - cC * (p.1 * q.2 + p.2 * q.1) * (p.2 * q.2 + p.1 * q.1) * r.1 * r.2) * (padd (padd p q) r).2 = cC * ((p.2 * q.2 + p.1 * q.1) * (cC + mm p q) * r.2 + (p.1 * q.2 + p.2 * q.1) * (cC - mm p q) * r.1)
    ∧ (cC + mm p q) * (cC - mm p q) - cC * (p.1 * q.2 + p.2 * q.1) * (p.2 * q.2 + p.1 * q.1) * r.1 * r.2 ≠ 0 := by
  have hu := mul_inv (den1 hp hq)
  have hv := mul_inv (den2 hp hq)
  have hne := den2 (padd_on hp hq) hr
  have hw := mul_inv hne
  exact ⟨mul_cancel cC_ne (gen_clear2 P cC (p.1 * q.2 + p.2 * q.1) (p.2 * q.2 + p.1 * q.1) (cC + mm p q) (cC - mm p q) _ _ r.1 r.2 _ _ hu hv hw rfl), fun h0 => hne (gen_ne2 P cC _ _ _ _ _ _ _ _ hu hv h0)⟩
theorem gen_eq (n : Nat) [NeZero n] (c X Y a b d e : Fin n) (h1 : a * X = c * b) (h2 : d * Y = c * e) (h : b * d = e * a) : (a * d) * X = (a * d) * Y := by grind
theorem padd_assoc {p q r : Pt} (hp : OnP p) (hq : OnP q) (hr : OnP r) : padd (padd p q) r = padd p (padd q r) := by
  rw [padd_comm p (padd q r)]
  have a1 := left1 hp hq hr
  have a2 := left2 hp hq hr
  have b1 := left1 hq hr hp
  have b2 := left2 hq hr hp
  have k1 := assocX P cC p.1 p.2 q.1 q.2 r.1 r.2 hp hq hr
  have k2 := assocY P cC p.1 p.2 q.1 q.2 r.1 r.2 hp hq hr
  exact Prod.ext (mul_cancel (mul_ne a1.2 b1.2) (gen_eq P cC _ _ _ _ _ _ a1.1 b1.1 k1)) (mul_cancel (mul_ne a2.2 b2.2) (gen_eq P cC _ _ _ _ _ _ a2.1 b2.1 k2))

/-- n times a point. -/
def mulP (p : Pt) : Nat → Pt
  | 0 => zero
  | n + 1 => padd (mulP p n) p
theorem mulP_on {p : Pt} (hp : OnP p) (n : Nat) : OnP (mulP p n) := by
  induction n with
  | zero => exact zero_on
  | succ n ih => exact padd_on ih hp
theorem mulP_add {p : Pt} (hp : OnP p) (m n : Nat) : mulP p (m + n) = padd (mulP p m) (mulP p n) := by
  induction n with
  | zero => rw [Nat.add_zero]; exact (padd_zero _).symm
  | succ n ih =>
    show padd (mulP p (m + n)) p = padd (mulP p m) (padd (mulP p n) p)
    rw [ih, padd_assoc (mulP_on hp m) (mulP_on hp n) hp]
theorem mulP_one (p : Pt) : mulP p 1 = p := zero_padd p
theorem mulP_mul {p : Pt} (hp : OnP p) (m n : Nat) : mulP (mulP p m) n = mulP p (m * n) := by
  induction n with
  | zero => rfl
  | succ n ih =>
    show padd (mulP (mulP p m) n) (mulP p m) = _
    rw [ih, Nat.mul_succ, mulP_add hp]
end Ed
end Go.Proofs.YtbojijefenfbgaaGreatDoor
namespace Go.Proofs.YtbojijefenfbgaaGreatDoor
namespace Ed

/-- A point x/z, y/z with t = x y / z. -/
structure E where
  x : F
  y : F
  z : F
  t : F
def quot (e f g h : F) : E := ⟨e * f, g * h, f * g, e * h⟩
def eadd (p q : E) : E :=
  quot ((p.y + p.x) * (q.y + q.x) - (p.y - p.x) * (q.y - q.x)) (p.z * q.z + p.z * q.z - p.t * (dD + dD) * q.t) (p.z * q.z + p.z * q.z + p.t * (dD + dD) * q.t) ((p.y + p.x) * (q.y + q.x) + (p.y - p.x) * (q.y - q.x))
def edbl (p : E) : E :=
  quot ((p.x + p.y) * (p.x + p.y) - p.x * p.x - p.y * p.y) (p.y * p.y - p.x * p.x - (p.z * p.z + p.z * p.z)) (p.y * p.y - p.x * p.x) (0 - (p.x * p.x + p.y * p.y))
def eneg (p : E) : E := ⟨0 - p.x, p.y, p.z, 0 - p.t⟩
def aff (x y : F) : E := ⟨x, y, 1, x * y⟩
def ezero : E := aff 0 1
/-- It stands for the point p. -/
structure Rep (e : E) (p : Pt) : Prop where
  z : e.z ≠ 0
  x : e.x = p.1 * e.z
  y : e.y = p.2 * e.z
  t : e.t = p.1 * p.2 * e.z

theorem gen_addE (n : Nat) [NeZero n] (x1 y1 z1 x2 y2 z2 : Fin n) : (y1 * z1 + x1 * z1) * (y2 * z2 + x2 * z2) - (y1 * z1 - x1 * z1) * (y2 * z2 - x2 * z2) = 2 * (z1 * z2) * (x1 * y2 + y1 * x2) := by grind
theorem gen_addH (n : Nat) [NeZero n] (x1 y1 z1 x2 y2 z2 : Fin n) : (y1 * z1 + x1 * z1) * (y2 * z2 + x2 * z2) + (y1 * z1 - x1 * z1) * (y2 * z2 - x2 * z2) = 2 * (z1 * z2) * (y1 * y2 + x1 * x2) := by grind
theorem gen_addF (n : Nat) [NeZero n] (x1 y1 z1 x2 y2 z2 c d : Fin n) (h : d * c = 1) : z1 * z2 + z1 * z2 - x1 * y1 * z1 * (d + d) * (x2 * y2 * z2) = 2 * (z1 * z2) * (d * (c - x1 * x2 * y1 * y2)) := by grind
theorem gen_addG (n : Nat) [NeZero n] (x1 y1 z1 x2 y2 z2 c d : Fin n) (h : d * c = 1) : z1 * z2 + z1 * z2 + x1 * y1 * z1 * (d + d) * (x2 * y2 * z2) = 2 * (z1 * z2) * (d * (c + x1 * x2 * y1 * y2)) := by grind
/-- e f, g h, f g, e h with e = k N, g = k d A, f = k d B, h = k M stand for (c N / A, c M / B). -/
theorem gen_q1 (n : Nat) [NeZero n] (k N A B d c u : Fin n) (h : d * c = 1) (hu : A * u = 1) : k * N * (k * (d * B)) = c * N * u * (k * (d * B) * (k * (d * A))) := by grind
theorem gen_q2 (n : Nat) [NeZero n] (k M A B d c v : Fin n) (h : d * c = 1) (hv : B * v = 1) : k * (d * A) * (k * M) = c * M * v * (k * (d * B) * (k * (d * A))) := by grind
theorem gen_q3 (n : Nat) [NeZero n] (k N M A B d c u v : Fin n) (h : d * c = 1) (hu : A * u = 1) (hv : B * v = 1) : k * N * (k * M) = c * N * u * (c * M * v) * (k * (d * B) * (k * (d * A))) := by
  have e1 : k * N = c * N * u * (k * (d * A)) := by grind
  have e2 : k * M = c * M * v * (k * (d * B)) := by grind
  rw [e1, e2]
  grind
theorem dD_ne : dD ≠ 0 := by decide
theorem quot_rep {p q : Pt} (hp : OnP p) (hq : OnP q) (k e f g h : F) (hk : k ≠ 0) (he : e = k * (p.1 * q.2 + p.2 * q.1)) (hf : f = k * (dD * (cC - mm p q))) (hg : g = k * (dD * (cC + mm p q))) (hh : h = k * (p.2 * q.2 + p.1 * q.1)) :
    Rep (quot e f g h) (padd p q) := by
  have hu := mul_inv (den1 hp hq)
  have hv := mul_inv (den2 hp hq)
  subst he hf hg hh
  refine ⟨?_, ?_, ?_, ?_⟩
  · exact mul_ne (mul_ne hk (mul_ne dD_ne (den2 hp hq))) (mul_ne hk (mul_ne dD_ne (den1 hp hq)))
  · exact gen_q1 P k _ _ _ dD cC _ dD_cC hu
  · exact gen_q2 P k _ _ _ dD cC _ dD_cC hv
  · exact gen_q3 P k _ _ _ _ dD cC _ _ dD_cC hu hv
theorem eadd_rep {e f : E} {p q : Pt} (hp : OnP p) (hq : OnP q) (he : Rep e p) (hf : Rep f q) : Rep (eadd e f) (padd p q) := by
  unfold eadd
  refine quot_rep hp hq (2 * (e.z * f.z)) _ _ _ _ (mul_ne two_ne (mul_ne he.z hf.z)) ?_ ?_ ?_ ?_
  · rw [he.x, he.y, hf.x, hf.y]
    exact gen_addE P p.1 p.2 e.z q.1 q.2 f.z
  · rw [he.t, hf.t]
    exact gen_addF P p.1 p.2 e.z q.1 q.2 f.z cC dD dD_cC
  · rw [he.t, hf.t]
    exact gen_addG P p.1 p.2 e.z q.1 q.2 f.z cC dD dD_cC
  · rw [he.x, he.y, hf.x, hf.y]
    exact gen_addH P p.1 p.2 e.z q.1 q.2 f.z
theorem gen_dE (n : Nat) [NeZero n] (x y z : Fin n) : (x * z + y * z) * (x * z + y * z) - x * z * (x * z) - y * z * (y * z) = z * z * (x * y + y * x) := by grind
theorem gen_dF (n : Nat) [NeZero n] (x y z c d : Fin n) (h : d * c = 1) (ho : x * x * (y * y) = c * (y * y - x * x - 1)) : y * z * (y * z) - x * z * (x * z) - (z * z + z * z) = 0 - z * z * (d * (c - x * x * y * y)) := by
  have e : d * (x * x * (y * y)) = y * y - x * x - 1 := by rw [ho]; grind
  grind
theorem gen_dG (n : Nat) [NeZero n] (x y z c d : Fin n) (h : d * c = 1) (ho : x * x * (y * y) = c * (y * y - x * x - 1)) : y * z * (y * z) - x * z * (x * z) = z * z * (d * (c + x * x * y * y)) := by
  have e : d * (x * x * (y * y)) = y * y - x * x - 1 := by rw [ho]; grind
  grind
theorem gen_dH (n : Nat) [NeZero n] (x y z : Fin n) : 0 - (x * z * (x * z) + y * z * (y * z)) = 0 - z * z * (y * y + x * x) := by grind
theorem gen_flip (n : Nat) [NeZero n] (e f g h : Fin n) : (e * (0 - f), g * (0 - h), (0 - f) * g, e * (0 - h)) = (0 - e * f, 0 - g * h, 0 - f * g, 0 - e * h) := by
  refine Prod.ext ?_ (Prod.ext ?_ (Prod.ext ?_ ?_)) <;> grind
theorem gen_negmul (n : Nat) [NeZero n] (a b : Fin n) : 0 - a * b = a * (0 - b) := by grind
theorem gen_neg0 (n : Nat) [NeZero n] (a : Fin n) (h : 0 - a = 0) : a = 0 := by grind
/-- All four turned stand for the same point. -/
theorem rep_flip {e : E} {p : Pt} (h : Rep e p) : Rep ⟨0 - e.x, 0 - e.y, 0 - e.z, 0 - e.t⟩ p :=
  ⟨fun h0 => h.z (gen_neg0 P _ h0), by show 0 - e.x = _; rw [h.x]; exact gen_negmul P _ _, by show 0 - e.y = _; rw [h.y]; exact gen_negmul P _ _, by show 0 - e.t = _; rw [h.t]; exact gen_negmul P _ _⟩
theorem edbl_rep {e : E} {p : Pt} (hp : OnP p) (he : Rep e p) : Rep (edbl e) (padd p p) := by
  have h := quot_rep hp hp (e.z * e.z) _ _ _ _ (mul_ne he.z he.z) rfl rfl rfl rfl
  have h2 := rep_flip h
  have hx := he.x
  have hy := he.y
  have e1 : edbl e = quot (e.z * e.z * (p.1 * p.2 + p.2 * p.1)) (0 - e.z * e.z * (dD * (cC - mm p p))) (e.z * e.z * (dD * (cC + mm p p))) (0 - e.z * e.z * (p.2 * p.2 + p.1 * p.1)) := by
    unfold edbl
    rw [hx, hy, gen_dE P p.1 p.2 e.z, gen_dF P p.1 p.2 e.z cC dD dD_cC hp, gen_dG P p.1 p.2 e.z cC dD dD_cC hp, gen_dH P p.1 p.2 e.z]
    rfl
  rw [e1]
  have hfl := gen_flip P (e.z * e.z * (p.1 * p.2 + p.2 * p.1)) (e.z * e.z * (dD * (cC - mm p p))) (e.z * e.z * (dD * (cC + mm p p))) (e.z * e.z * (p.2 * p.2 + p.1 * p.1))
  simp only [Prod.mk.injEq] at hfl
  unfold quot at h2 ⊢
  rw [hfl.1, hfl.2.1, hfl.2.2.1, hfl.2.2.2]
  exact h2
theorem one_ne : (1 : F) ≠ 0 := by decide
theorem gen_one (n : Nat) [NeZero n] (a : Fin n) : a = a * 1 := by grind
theorem aff_rep (x y : F) : Rep (aff x y) (x, y) := ⟨one_ne, gen_one P x, gen_one P y, gen_one P (x * y)⟩
theorem gen_nn (n : Nat) [NeZero n] (a b : Fin n) : 0 - a * b = -a * b := by grind
theorem gen_nn2 (n : Nat) [NeZero n] (a b c : Fin n) : 0 - a * c * b = -a * c * b := by grind
theorem eneg_rep {e : E} {p : Pt} (he : Rep e p) : Rep (eneg e) (neg p) :=
  ⟨he.z, by show 0 - e.x = -p.1 * e.z; rw [he.x]; exact gen_nn P _ _, he.y, by show 0 - e.t = -p.1 * p.2 * e.z; rw [he.t]; exact gen_nn2 P _ _ _⟩
theorem gen_div (n : Nat) [NeZero n] (a z u : Fin n) (h : z * u = 1) : a * z * u = a := by grind
theorem rep_x {e : E} {p : Pt} (he : Rep e p) : e.x * inv e.z = p.1 := by rw [he.x]; exact gen_div P _ _ _ (mul_inv he.z)
theorem rep_y {e : E} {p : Pt} (he : Rep e p) : e.y * inv e.z = p.2 := by rw [he.y]; exact gen_div P _ _ _ (mul_inv he.z)

/-- The document's three coordinates. -/
structure T3 where
  x : F
  y : F
  z : F
def tsum (p q : T3) : T3 :=
  ⟨p.z * q.z * ((p.z * q.z * (p.z * q.z) - dD * (p.x * q.x * (p.y * q.y))) * ((p.x + p.y) * (q.x + q.y) - p.x * q.x - p.y * q.y)),
   p.z * q.z * ((p.z * q.z * (p.z * q.z) + dD * (p.x * q.x * (p.y * q.y))) * (p.y * q.y + p.x * q.x)),
   (p.z * q.z * (p.z * q.z) - dD * (p.x * q.x * (p.y * q.y))) * (p.z * q.z * (p.z * q.z) + dD * (p.x * q.x * (p.y * q.y)))⟩
structure RepT (e : T3) (p : Pt) : Prop where
  z : e.z ≠ 0
  x : e.x = p.1 * e.z
  y : e.y = p.2 * e.z
theorem gen_tF (n : Nat) [NeZero n] (x1 y1 z1 x2 y2 z2 c d : Fin n) (h : d * c = 1) : z1 * z2 * (z1 * z2) - d * (x1 * z1 * (x2 * z2) * (y1 * z1 * (y2 * z2))) = z1 * z2 * (z1 * z2) * (d * (c - x1 * x2 * y1 * y2)) := by grind
theorem gen_tG (n : Nat) [NeZero n] (x1 y1 z1 x2 y2 z2 c d : Fin n) (h : d * c = 1) : z1 * z2 * (z1 * z2) + d * (x1 * z1 * (x2 * z2) * (y1 * z1 * (y2 * z2))) = z1 * z2 * (z1 * z2) * (d * (c + x1 * x2 * y1 * y2)) := by grind
theorem gen_tM (n : Nat) [NeZero n] (x1 y1 z1 x2 y2 z2 : Fin n) : (x1 * z1 + y1 * z1) * (x2 * z2 + y2 * z2) - x1 * z1 * (x2 * z2) - y1 * z1 * (y2 * z2) = z1 * z2 * (x1 * y2 + y1 * x2) := by grind
theorem gen_tN (n : Nat) [NeZero n] (x1 y1 z1 x2 y2 z2 : Fin n) : y1 * z1 * (y2 * z2) + x1 * z1 * (x2 * z2) = z1 * z2 * (y1 * y2 + x1 * x2) := by grind
theorem gen_t1 (n : Nat) [NeZero n] (a N A B d c u : Fin n) (h : d * c = 1) (hu : A * u = 1) : a * ((a * a * (d * B)) * (a * N)) = c * N * u * ((a * a * (d * B)) * (a * a * (d * A))) := by grind
theorem gen_t2 (n : Nat) [NeZero n] (a M A B d c v : Fin n) (h : d * c = 1) (hv : B * v = 1) : a * ((a * a * (d * A)) * (a * M)) = c * M * v * ((a * a * (d * B)) * (a * a * (d * A))) := by grind
theorem tsum_rep {e f : T3} {p q : Pt} (hp : OnP p) (hq : OnP q) (he : RepT e p) (hf : RepT f q) : RepT (tsum e f) (padd p q) := by
  have hu := mul_inv (den1 hp hq)
  have hv := mul_inv (den2 hp hq)
  have hz := mul_ne he.z hf.z
  have e1 : tsum e f = ⟨e.z * f.z * ((e.z * f.z * (e.z * f.z) * (dD * (cC - mm p q))) * (e.z * f.z * (p.1 * q.2 + p.2 * q.1))), e.z * f.z * ((e.z * f.z * (e.z * f.z) * (dD * (cC + mm p q))) * (e.z * f.z * (p.2 * q.2 + p.1 * q.1))), (e.z * f.z * (e.z * f.z) * (dD * (cC - mm p q))) * (e.z * f.z * (e.z * f.z) * (dD * (cC + mm p q)))⟩ := by
    unfold tsum
    rw [he.x, he.y, hf.x, hf.y, gen_tF P p.1 p.2 e.z q.1 q.2 f.z cC dD dD_cC, gen_tG P p.1 p.2 e.z q.1 q.2 f.z cC dD dD_cC, gen_tM P p.1 p.2 e.z q.1 q.2 f.z, gen_tN P p.1 p.2 e.z q.1 q.2 f.z]
    rfl
  rw [e1]
  refine ⟨mul_ne (mul_ne (mul_ne hz hz) (mul_ne dD_ne (den2 hp hq))) (mul_ne (mul_ne hz hz) (mul_ne dD_ne (den1 hp hq))), ?_, ?_⟩
  · exact gen_t1 P (e.z * f.z) _ _ _ dD cC _ dD_cC hu
  · exact gen_t2 P (e.z * f.z) _ _ _ dD cC _ dD_cC hv
theorem repT_x {e : T3} {p : Pt} (he : RepT e p) : e.x * inv e.z = p.1 := by rw [he.x]; exact gen_div P _ _ _ (mul_inv he.z)
theorem repT_y {e : T3} {p : Pt} (he : RepT e p) : e.y * inv e.z = p.2 := by rw [he.y]; exact gen_div P _ _ _ (mul_inv he.z)
def taff (x y : F) : T3 := ⟨x, y, 1⟩
theorem taff_rep (x y : F) : RepT (taff x y) (x, y) := ⟨one_ne, gen_one P x, gen_one P y⟩
end Ed
end Go.Proofs.YtbojijefenfbgaaGreatDoor
