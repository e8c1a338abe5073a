/- Points by four coordinates (the program's) and by three (the document's) stand for points of the curve; sums and doubles of them for sums. Roots in the field, and the x of a point by its y. The program's words of the field as elements of F: Add, Sub, Mul. Walks of the program's field over F: Square, Neg, squares, join, power, Inverse, Root. -/
import Derived.Test.YtbojijefenfbgaaGreatDoorGgNt
import Derived.KernelRfl
import Derived.Test.YtbojijefenfbgaaGreatDoorGgFieldWalks
import Derived.Test.YtbojijefenfbgaaGreatDoorGgOwn
namespace Go.Proofs.YtbojijefenfbgaaGreatDoor
namespace Ed
structure E where
 x : F
 y : F
 z : F
 t : F
def quot (e f g h : F) : E := ⟨e * f, g * h, f * g, e * h⟩
def eadd (p q : E) : E :=
 quot ((p.y + p.x) * (q.y + q.x) - (p.y - p.x) * (q.y - q.x)) (p.z * q.z + p.z * q.z - p.t * (dD + dD) * q.t) (p.z * q.z + p.z * q.z + p.t * (dD + dD) * q.t) ((p.y + p.x) * (q.y + q.x) + (p.y - p.x) * (q.y - q.x))
def edbl (p : E) : E :=
 quot ((p.x + p.y) * (p.x + p.y) - p.x * p.x - p.y * p.y) (p.y * p.y - p.x * p.x - (p.z * p.z + p.z * p.z)) (p.y * p.y - p.x * p.x) (0 - (p.x * p.x + p.y * p.y))
def eneg (p : E) : E := ⟨0 - p.x, p.y, p.z, 0 - p.t⟩
def aff (x y : F) : E := ⟨x, y, 1, x * y⟩
def ezero : E := aff 0 1
structure Rep (e : E) (p : Pt) : Prop where
 z : e.z ≠ 0
 x : e.x = p.1 * e.z
 y : e.y = p.2 * e.z
 t : e.t = p.1 * p.2 * e.z
theorem gen_addE (n : Nat) [NeZero n] (x1 y1 z1 x2 y2 z2 : Fin n) : (y1 * z1 + x1 * z1) * (y2 * z2 + x2 * z2) - (y1 * z1 - x1 * z1) * (y2 * z2 - x2 * z2) = 2 * (z1 * z2) * (x1 * y2 + y1 * x2) := by grind
theorem gen_addH (n : Nat) [NeZero n] (x1 y1 z1 x2 y2 z2 : Fin n) : (y1 * z1 + x1 * z1) * (y2 * z2 + x2 * z2) + (y1 * z1 - x1 * z1) * (y2 * z2 - x2 * z2) = 2 * (z1 * z2) * (y1 * y2 + x1 * x2) := by grind
theorem gen_addF (n : Nat) [NeZero n] (x1 y1 z1 x2 y2 z2 c d : Fin n) (h : d * c = 1) : z1 * z2 + z1 * z2 - x1 * y1 * z1 * (d + d) * (x2 * y2 * z2) = 2 * (z1 * z2) * (d * (c - x1 * x2 * y1 * y2)) := by grind
theorem gen_addG (n : Nat) [NeZero n] (x1 y1 z1 x2 y2 z2 c d : Fin n) (h : d * c = 1) : z1 * z2 + z1 * z2 + x1 * y1 * z1 * (d + d) * (x2 * y2 * z2) = 2 * (z1 * z2) * (d * (c + x1 * x2 * y1 * y2)) := by grind
theorem gen_q1 (n : Nat) [NeZero n] (k N A B d c u : Fin n) (h : d * c = 1) (hu : A * u = 1) : k * N * (k * (d * B)) = c * N * u * (k * (d * B) * (k * (d * A))) := by grind
theorem gen_q2 (n : Nat) [NeZero n] (k M A B d c v : Fin n) (h : d * c = 1) (hv : B * v = 1) : k * (d * A) * (k * M) = c * M * v * (k * (d * B) * (k * (d * A))) := by grind
theorem gen_q3 (n : Nat) [NeZero n] (k N M A B d c u v : Fin n) (h : d * c = 1) (hu : A * u = 1) (hv : B * v = 1) : k * N * (k * M) = c * N * u * (c * M * v) * (k * (d * B) * (k * (d * A))) := by
 have e1 : k * N = c * N * u * (k * (d * A)) := by grind
 have e2 : k * M = c * M * v * (k * (d * B)) := by grind
 rw [e1, e2]
 grind
theorem dD_ne : dD ≠ 0 := by decide
theorem quot_rep {p q : Pt} (hp : OnP p) (hq : OnP q) (k e f g h : F) (hk : k ≠ 0) (he : e = k * (p.1 * q.2 + p.2 * q.1)) (hf : f = k * (dD * (cC - mm p q))) (hg : g = k * (dD * (cC + mm p q))) (hh : h = k * (p.2 * q.2 + p.1 * q.1)) :
  Rep (quot e f g h) (padd p q) := by
 have hu := mul_inv (den1 hp hq)
 have hv := mul_inv (den2 hp hq)
 subst he hf hg hh
 refine ⟨?_, ?_, ?_, ?_⟩
 ·exact mul_ne (mul_ne hk (mul_ne dD_ne (den2 hp hq))) (mul_ne hk (mul_ne dD_ne (den1 hp hq)))
 ·exact gen_q1 P k _ _ _ dD cC _ dD_cC hu
 ·exact gen_q2 P k _ _ _ dD cC _ dD_cC hv
 ·exact gen_q3 P k _ _ _ _ dD cC _ _ dD_cC hu hv
theorem eadd_rep {e f : E} {p q : Pt} (hp : OnP p) (hq : OnP q) (he : Rep e p) (hf : Rep f q) : Rep (eadd e f) (padd p q) := by
 unfold eadd
 refine quot_rep hp hq (2 * (e.z * f.z)) _ _ _ _ (mul_ne two_ne (mul_ne he.z hf.z)) ?_ ?_ ?_ ?_
 ·rw [he.x, he.y, hf.x, hf.y]
  exact gen_addE P p.1 p.2 e.z q.1 q.2 f.z
 ·rw [he.t, hf.t]
  exact gen_addF P p.1 p.2 e.z q.1 q.2 f.z cC dD dD_cC
 ·rw [he.t, hf.t]
  exact gen_addG P p.1 p.2 e.z q.1 q.2 f.z cC dD dD_cC
 ·rw [he.x, he.y, hf.x, hf.y]
  exact gen_addH P p.1 p.2 e.z q.1 q.2 f.z
theorem gen_dE (n : Nat) [NeZero n] (x y z : Fin n) : (x * z + y * z) * (x * z + y * z) - x * z * (x * z) - y * z * (y * z) = z * z * (x * y + y * x) := by grind
theorem gen_dF (n : Nat) [NeZero n] (x y z c d : Fin n) (h : d * c = 1) (ho : x * x * (y * y) = c * (y * y - x * x - 1)) : y * z * (y * z) - x * z * (x * z) - (z * z + z * z) = 0 - z * z * (d * (c - x * x * y * y)) := by
 have e : d * (x * x * (y * y)) = y * y - x * x - 1 := by rw [ho]; grind
 grind
theorem gen_dG (n : Nat) [NeZero n] (x y z c d : Fin n) (h : d * c = 1) (ho : x * x * (y * y) = c * (y * y - x * x - 1)) : y * z * (y * z) - x * z * (x * z) = z * z * (d * (c + x * x * y * y)) := by
 have e : d * (x * x * (y * y)) = y * y - x * x - 1 := by rw [ho]; grind
 grind
theorem gen_dH (n : Nat) [NeZero n] (x y z : Fin n) : 0 - (x * z * (x * z) + y * z * (y * z)) = 0 - z * z * (y * y + x * x) := by grind
theorem gen_flip (n : Nat) [NeZero n] (e f g h : Fin n) : (e * (0 - f), g * (0 - h), (0 - f) * g, e * (0 - h)) = (0 - e * f, 0 - g * h, 0 - f * g, 0 - e * h) := by
 refine Prod.ext ?_ (Prod.ext ?_ (Prod.ext ?_ ?_)) <;> grind
theorem gen_negmul (n : Nat) [NeZero n] (a b : Fin n) : 0 - a * b = a * (0 - b) := by grind
theorem gen_neg0 (n : Nat) [NeZero n] (a : Fin n) (h : 0 - a = 0) : a = 0 := by grind
theorem rep_flip {e : E} {p : Pt} (h : Rep e p) : Rep ⟨0 - e.x, 0 - e.y, 0 - e.z, 0 - e.t⟩ p :=
 ⟨fun h0 => h.z (gen_neg0 P _ h0), by show 0 - e.x = _; rw [h.x]; exact gen_negmul P _ _, by show 0 - e.y = _; rw [h.y]; exact gen_negmul P _ _, by show 0 - e.t = _; rw [h.t]; exact gen_negmul P _ _⟩
theorem edbl_rep {e : E} {p : Pt} (hp : OnP p) (he : Rep e p) : Rep (edbl e) (padd p p) := by
 have h := quot_rep hp hp (e.z * e.z) _ _ _ _ (mul_ne he.z he.z) rfl rfl rfl rfl
 have h2 := rep_flip h
 have hx := he.x
 have hy := he.y
 have e1 : edbl e = quot (e.z * e.z * (p.1 * p.2 + p.2 * p.1)) (0 - e.z * e.z * (dD * (cC - mm p p))) (e.z * e.z * (dD * (cC + mm p p))) (0 - e.z * e.z * (p.2 * p.2 + p.1 * p.1)) := by
  unfold edbl
  rw [hx, hy, gen_dE P p.1 p.2 e.z, gen_dF P p.1 p.2 e.z cC dD dD_cC hp, gen_dG P p.1 p.2 e.z cC dD dD_cC hp, gen_dH P p.1 p.2 e.z]
  rfl
 rw [e1]
 have hfl := gen_flip P (e.z * e.z * (p.1 * p.2 + p.2 * p.1)) (e.z * e.z * (dD * (cC - mm p p))) (e.z * e.z * (dD * (cC + mm p p))) (e.z * e.z * (p.2 * p.2 + p.1 * p.1))
 simp only [Prod.mk.injEq] at hfl
 unfold quot at h2 ⊢
 rw [hfl.1, hfl.2.1, hfl.2.2.1, hfl.2.2.2]
 exact h2
theorem one_ne : (1 : F) ≠ 0 := by decide
theorem gen_one (n : Nat) [NeZero n] (a : Fin n) : a = a * 1 := by grind
theorem aff_rep (x y : F) : Rep (aff x y) (x, y) := ⟨one_ne, gen_one P x, gen_one P y, gen_one P (x * y)⟩
theorem gen_nn (n : Nat) [NeZero n] (a b : Fin n) : 0 - a * b = -a * b := by grind
theorem gen_nn2 (n : Nat) [NeZero n] (a b c : Fin n) : 0 - a * c * b = -a * c * b := by grind
theorem eneg_rep {e : E} {p : Pt} (he : Rep e p) : Rep (eneg e) (neg p) :=
 ⟨he.z, by show 0 - e.x = -p.1 * e.z; rw [he.x]; exact gen_nn P _ _, he.y, by show 0 - e.t = -p.1 * p.2 * e.z; rw [he.t]; exact gen_nn2 P _ _ _⟩
theorem gen_div (n : Nat) [NeZero n] (a z u : Fin n) (h : z * u = 1) : a * z * u = a := by grind
theorem rep_x {e : E} {p : Pt} (he : Rep e p) : e.x * inv e.z = p.1 := by rw [he.x]; exact gen_div P _ _ _ (mul_inv he.z)
theorem rep_y {e : E} {p : Pt} (he : Rep e p) : e.y * inv e.z = p.2 := by rw [he.y]; exact gen_div P _ _ _ (mul_inv he.z)
structure T3 where
 x : F
 y : F
 z : F
def tsum (p q : T3) : T3 :=
  ⟨p.z * q.z * ((p.z * q.z * (p.z * q.z) - dD * (p.x * q.x * (p.y * q.y))) * ((p.x + p.y) * (q.x + q.y) - p.x * q.x - p.y * q.y)),
   p.z * q.z * ((p.z * q.z * (p.z * q.z) + dD * (p.x * q.x * (p.y * q.y))) * (p.y * q.y + p.x * q.x)),
   (p.z * q.z * (p.z * q.z) - dD * (p.x * q.x * (p.y * q.y))) * (p.z * q.z * (p.z * q.z) + dD * (p.x * q.x * (p.y * q.y)))⟩
structure RepT (e : T3) (p : Pt) : Prop where
 z : e.z ≠ 0
 x : e.x = p.1 * e.z
 y : e.y = p.2 * e.z
theorem gen_tF (n : Nat) [NeZero n] (x1 y1 z1 x2 y2 z2 c d : Fin n) (h : d * c = 1) : z1 * z2 * (z1 * z2) - d * (x1 * z1 * (x2 * z2) * (y1 * z1 * (y2 * z2))) = z1 * z2 * (z1 * z2) * (d * (c - x1 * x2 * y1 * y2)) := by grind
theorem gen_tG (n : Nat) [NeZero n] (x1 y1 z1 x2 y2 z2 c d : Fin n) (h : d * c = 1) : z1 * z2 * (z1 * z2) + d * (x1 * z1 * (x2 * z2) * (y1 * z1 * (y2 * z2))) = z1 * z2 * (z1 * z2) * (d * (c + x1 * x2 * y1 * y2)) := by grind
theorem gen_tM (n : Nat) [NeZero n] (x1 y1 z1 x2 y2 z2 : Fin n) : (x1 * z1 + y1 * z1) * (x2 * z2 + y2 * z2) - x1 * z1 * (x2 * z2) - y1 * z1 * (y2 * z2) = z1 * z2 * (x1 * y2 + y1 * x2) := by grind
theorem gen_tN (n : Nat) [NeZero n] (x1 y1 z1 x2 y2 z2 : Fin n) : y1 * z1 * (y2 * z2) + x1 * z1 * (x2 * z2) = z1 * z2 * (y1 * y2 + x1 * x2) := by grind
theorem gen_t1 (n : Nat) [NeZero n] (a N A B d c u : Fin n) (h : d * c = 1) (hu : A * u = 1) : a * ((a * a * (d * B)) * (a * N)) = c * N * u * ((a * a * (d * B)) * (a * a * (d * A))) := by grind
theorem gen_t2 (n : Nat) [NeZero n] (a M A B d c v : Fin n) (h : d * c = 1) (hv : B * v = 1) : a * ((a * a * (d * A)) * (a * M)) = c * M * v * ((a * a * (d * B)) * (a * a * (d * A))) := by grind
theorem tsum_rep {e f : T3} {p q : Pt} (hp : OnP p) (hq : OnP q) (he : RepT e p) (hf : RepT f q) : RepT (tsum e f) (padd p q) := by
 have hu := mul_inv (den1 hp hq)
 have hv := mul_inv (den2 hp hq)
 have hz := mul_ne he.z hf.z
 have e1 : tsum e f = ⟨e.z * f.z * ((e.z * f.z * (e.z * f.z) * (dD * (cC - mm p q))) * (e.z * f.z * (p.1 * q.2 + p.2 * q.1))), e.z * f.z * ((e.z * f.z * (e.z * f.z) * (dD * (cC + mm p q))) * (e.z * f.z * (p.2 * q.2 + p.1 * q.1))), (e.z * f.z * (e.z * f.z) * (dD * (cC - mm p q))) * (e.z * f.z * (e.z * f.z) * (dD * (cC + mm p q)))⟩ := by
  unfold tsum
  rw [he.x, he.y, hf.x, hf.y, gen_tF P p.1 p.2 e.z q.1 q.2 f.z cC dD dD_cC, gen_tG P p.1 p.2 e.z q.1 q.2 f.z cC dD dD_cC, gen_tM P p.1 p.2 e.z q.1 q.2 f.z, gen_tN P p.1 p.2 e.z q.1 q.2 f.z]
  rfl
 rw [e1]
 refine ⟨mul_ne (mul_ne (mul_ne hz hz) (mul_ne dD_ne (den2 hp hq))) (mul_ne (mul_ne hz hz) (mul_ne dD_ne (den1 hp hq))), ?_, ?_⟩
 ·exact gen_t1 P (e.z * f.z) _ _ _ dD cC _ dD_cC hu
 ·exact gen_t2 P (e.z * f.z) _ _ _ dD cC _ dD_cC hv
theorem repT_x {e : T3} {p : Pt} (he : RepT e p) : e.x * inv e.z = p.1 := by rw [he.x]; exact gen_div P _ _ _ (mul_inv he.z)
theorem repT_y {e : T3} {p : Pt} (he : RepT e p) : e.y * inv e.z = p.2 := by rw [he.y]; exact gen_div P _ _ _ (mul_inv he.z)
def taff (x y : F) : T3 := ⟨x, y, 1⟩
theorem taff_rep (x y : F) : RepT (taff x y) (x, y) := ⟨one_ne, gen_one P x, gen_one P y⟩
end Ed
end Go.Proofs.YtbojijefenfbgaaGreatDoor
namespace Go.Proofs.YtbojijefenfbgaaGreatDoor
namespace Ed
def e8 : Nat := 7237005577332262213973186563042994240829374041602535252466099000494570602493
theorem half_pm {g : F} (hg : g ≠ 0) : fpow g 28948022309329048855892746252171976963317496166410141009864396001978282409974 = 1 ∨ fpow g 28948022309329048855892746252171976963317496166410141009864396001978282409974 = -1 := by
 have h := fermat hg
 rw [show P - 1 = 28948022309329048855892746252171976963317496166410141009864396001978282409974 + 28948022309329048855892746252171976963317496166410141009864396001978282409974 from by decide, fpow_add] at h
 generalize fpow g 28948022309329048855892746252171976963317496166410141009864396001978282409974 = s at *
 have h2 : (s - 1) * (s + 1) = 0 := by
  have : ∀ (n : Nat) [NeZero n] (s : Fin n), s * s = 1 → (s - 1) * (s + 1) = 0 := by intro n _ s h; grind
  exact this P s h
 rcases mul_zero_cases h2 with h3 | h3
 ·left
  have : ∀ (n : Nat) [NeZero n] (s : Fin n), s - 1 = 0 → s = 1 := by intro n _ s h; grind
  exact this P s h3
 ·right
  have : ∀ (n : Nat) [NeZero n] (s : Fin n), s + 1 = 0 → s = -1 := by intro n _ s h; grind
  exact this P s h3
def rootC (u v : F) : F := u * (v * v * v) * fpow (u * (v * v * v * (v * v * v) * v)) e8
def rootG (u v r : F) : F × Bool := if v * (r * r) = u then (r, true) else if v * (r * r) = 0 - u then (r * iI, true) else (0, false)
def rootF (u v : F) : F × Bool := rootG u v (rootC u v)
theorem gen_ri (n : Nat) [NeZero n] (u v r i : Fin n) (hi : i * i = -1) (h : v * (r * r) = 0 - u) : v * (r * i * (r * i)) = u := by grind
theorem rootG_true {u v r : F} (h : (rootG u v r).2 = true) : v * ((rootG u v r).1 * (rootG u v r).1) = u := by
 unfold rootG at *
 by_cases h1 : v * (r * r) = u
 ·rw [if_pos h1]; exact h1
 ·rw [if_neg h1] at *
  by_cases h2 : v * (r * r) = 0 - u
  ·rw [if_pos h2]; exact gen_ri P u v _ iI iI_sq h2
  ·rw [if_neg h2] at h; cases h
theorem rootG_false {u v r : F} (h : (rootG u v r).2 = false) : v * (r * r) ≠ u ∧ v * (r * r) ≠ 0 - u := by
 unfold rootG at h
 by_cases h1 : v * (r * r) = u
 ·rw [if_pos h1] at h; cases h
 ·rw [if_neg h1] at h
  by_cases h2 : v * (r * r) = 0 - u
  ·rw [if_pos h2] at h; cases h
  ·exact ⟨h1, h2⟩
theorem rootF_true {u v : F} (h : (rootF u v).2 = true) : v * ((rootF u v).1 * (rootF u v).1) = u := rootG_true (r := rootC u v) h
theorem gen_r0 (n : Nat) [NeZero n] (v a b c : Fin n) (u : Fin n) (hu : u = 0) : v * (u * a * b * (u * a * c)) = u := by grind
theorem gen_r1 (n : Nat) [NeZero n] (v x : Fin n) : v * (x * x) * (v * v * v * (v * v * v) * v) = v * v * (v * v) * x * (v * v * (v * v) * x) := by grind
theorem gen_r2 (n : Nat) [NeZero n] (u v s k : Fin n) (h : k = u * (v * v * v * (v * v * v) * v)) : v * (u * (v * v * v) * s * (u * (v * v * v) * s)) = u * (k * (s * s)) := by grind
theorem gen_pm (n : Nat) [NeZero n] (u k : Fin n) (h : k = -1) : u * k = 0 - u := by grind
theorem gen_p1 (n : Nat) [NeZero n] (u k : Fin n) (h : k = 1) : u * k = u := by grind
theorem rootC_sq {u v x : F} (hv : v ≠ 0) (hx : x ≠ 0) (h : v * (x * x) = u) : v * (rootC u v * rootC u v) = u ∨ v * (rootC u v * rootC u v) = 0 - u := by
 have hk : u * (v * v * v * (v * v * v) * v) = v * v * (v * v) * x * (v * v * (v * v) * x) := by rw [← h]; exact gen_r1 P v x
 have hg : v * v * (v * v) * x ≠ 0 := mul_ne (mul_ne (mul_ne hv hv) (mul_ne hv hv)) hx
 have hr := gen_r2 P u v (fpow (u * (v * v * v * (v * v * v) * v)) e8) _ rfl
 rw [show v * (rootC u v * rootC u v) = v * (u * (v * v * v) * fpow (u * (v * v * v * (v * v * v) * v)) e8 * (u * (v * v * v) * fpow (u * (v * v * v * (v * v * v) * v)) e8)) from rfl, hr, hk]
 generalize v * v * (v * v) * x = g at hg
 have hs : g * g * (fpow (g * g) e8 * fpow (g * g) e8) = fpow g 28948022309329048855892746252171976963317496166410141009864396001978282409974 := by
  have e1 : g * g = fpow g 2 := by rw [show (2 : Nat) = 1 + 1 from rfl, fpow_add, fpow_one]
  rw [e1, fpow_mul, ← fpow_add, ← fpow_add]
  congr 1
 rw [hs]
 rcases half_pm hg with h1 | h1
 ·left; exact gen_p1 P u _ h1
 ·right; exact gen_pm P u _ h1
theorem gen_ux (n : Nat) [NeZero n] (u v x : Fin n) (h0 : x = 0) (h : v * (x * x) = u) : u = 0 := by grind
theorem rootC_zero {u v : F} (hu : u = 0) : v * (rootC u v * rootC u v) = u := gen_r0 P v _ _ _ u hu
theorem rootF_false {u v : F} (hv : v ≠ 0) (h : (rootF u v).2 = false) (x : F) : v * (x * x) ≠ u := by
 intro hx
 have hn := rootG_false (r := rootC u v) h
 by_cases h0 : x = 0
 ·exact hn.1 (rootC_zero (gen_ux P u v x h0 hx))
 ·rcases rootC_sq hv h0 hx with h3 | h3
  ·exact hn.1 h3
  ·exact hn.2 h3
def rootRG (a r i : F) : F × Bool := if r * r = a then (r, true) else (r * i, decide (r * i * (r * i) = a))
theorem rootRG_true {a r i : F} (h : (rootRG a r i).2 = true) : (rootRG a r i).1 * (rootRG a r i).1 = a := by
 unfold rootRG at *
 by_cases h1 : r * r = a
 ·rw [if_pos h1]; exact h1
 ·rw [if_neg h1] at *; exact of_decide_eq_true h
theorem rootRG_false {a r i : F} (h : (rootRG a r i).2 = false) : r * r ≠ a ∧ r * i * (r * i) ≠ a := by
 unfold rootRG at h
 by_cases h1 : r * r = a
 ·rw [if_pos h1] at h; cases h
 ·rw [if_neg h1] at h; exact ⟨h1, of_decide_eq_false h⟩
def rt (a : F) : F := fpow a 7237005577332262213973186563042994240829374041602535252466099000494570602494
def i2 : F := fpow 2 14474011154664524427946373126085988481658748083205070504932198000989141204987
def rootR (a : F) : F × Bool := rootRG a (rt a) i2
theorem i2_eq : i2 = iI := by
 apply Fin.ext
 unfold i2
 rw [fpow_eval 2 14474011154664524427946373126085988481658748083205070504932198000989141204987 254 iI.val (by decide) (by kernel_rfl)]
theorem gen_rr (n : Nat) [NeZero n] (a r i : Fin n) (hi : i * i = -1) (h : r * r = a * -1) : r * i * (r * i) = a := by grind
theorem rt_zero : rt 0 = 0 := by
 apply Fin.ext
 unfold rt
 rw [fpow_eval 0 7237005577332262213973186563042994240829374041602535252466099000494570602494 253 0 (by decide) (by kernel_rfl)]
 rfl
theorem rt_sq {a x : F} (hx : x * x = a) : rt a * rt a = a * fpow x 28948022309329048855892746252171976963317496166410141009864396001978282409974 := by
 have e1 : a = fpow x 2 := by rw [← hx, show (2 : Nat) = 1 + 1 from rfl, fpow_add, fpow_one]
 unfold rt
 rw [e1, fpow_mul, ← fpow_add, ← fpow_add]
theorem gen_00 (n : Nat) [NeZero n] (x a : Fin n) (h0 : x = 0) (h : x * x = a) : a = 0 := by grind
theorem rootR_true {a : F} (h : (rootR a).2 = true) : (rootR a).1 * (rootR a).1 = a := rootRG_true (r := rt a) (i := i2) h
theorem rootR_false {a : F} (h : (rootR a).2 = false) (x : F) : x * x ≠ a := by
 intro hx
 have hn := rootRG_false (r := rt a) (i := i2) h
 rw [i2_eq] at hn
 by_cases h0 : x = 0
 ·have ha : a = 0 := gen_00 P x a h0 hx
  refine hn.1 ?_
  rw [ha, rt_zero]
  exact gen_00 P 0 _ rfl rfl
 ·have hs := rt_sq hx
  rcases half_pm h0 with h3 | h3
  ·refine hn.1 ?_; rw [hs, h3]; exact gen_p1 P a 1 rfl
  ·refine hn.2 ?_; rw [h3] at hs; exact gen_rr P a _ iI iI_sq hs
def vy (y : F) : F := dD * (y * y) + 1
def uy (y : F) : F := y * y - 1
theorem gen_v0 (n : Nat) [NeZero n] (y c d i : Fin n) (h : d * c = 1) (hi : i * i = -1) (h0 : d * (y * y) + 1 = 0) : i * y * (i * y) = c := by
 have : y * y = -c := by
  have : c * (d * (y * y) + 1) = 0 := by rw [h0]; grind
  grind
 grind
theorem vy_ne (y : F) : vy y ≠ 0 := fun h => cC_nonsquare (iI * y) (gen_v0 P y cC dD iI dD_cC iI_sq h)
theorem gen_on_iff1 (n : Nat) [NeZero n] (x y c d : Fin n) (h : d * c = 1) (ho : x * x * (y * y) = c * (y * y - x * x - 1)) : (d * (y * y) + 1) * (x * x) = y * y - 1 := by
 have e : d * (x * x * (y * y)) = y * y - x * x - 1 := by rw [ho]; grind
 grind
theorem gen_on_iff2 (n : Nat) [NeZero n] (x y c d : Fin n) (h : d * c = 1) (ho : (d * (y * y) + 1) * (x * x) = y * y - 1) : x * x * (y * y) = c * (y * y - x * x - 1) := by
 have e : c * (d * (y * y) * (x * x)) = x * x * (y * y) := by grind
 have e2 : d * (y * y) * (x * x) = y * y - x * x - 1 := by grind
 rw [← e, e2]
theorem on_iff (x y : F) : OnP (x, y) ↔ vy y * (x * x) = uy y := ⟨fun h => gen_on_iff1 P x y cC dD dD_cC h, fun h => gen_on_iff2 P x y cC dD dD_cC h⟩
def oddF (x : F) : Bool := x.val % 2 == 1
def acrossG (r : F × Bool) (odd : Bool) : F × Bool := if r.2 = false then (0, false) else if oddF r.1 = odd then (r.1, true) else (0 - r.1, oddF (0 - r.1) == odd)
def acrossF (y : F) (odd : Bool) : F × Bool := acrossG (rootF (uy y) (vy y)) odd
theorem neg_val {x : F} (h : x ≠ 0) : (0 - x).val = P - x.val := by
 have h1 : x.val ≠ 0 := fun h0 => h (Fin.ext h0)
 show (P - x.val + 0) % P = _
 rw [Nat.add_zero]
 exact Nat.mod_eq_of_lt (by have := x.isLt; omega)
theorem odd_neg {x : F} (h : x ≠ 0) : oddF (0 - x) = !oddF x := by
 have h1 := x.isLt
 unfold oddF
 rw [neg_val h]
 have hP : P % 2 = 1 := by decide
 rcases Nat.mod_two_eq_zero_or_one x.val with h2 | h2
 ·have : (P - x.val) % 2 = 1 := by omega
  rw [h2, this]; rfl
 ·have : (P - x.val) % 2 = 0 := by omega
  rw [h2, this]; rfl
theorem gen_sqneg (n : Nat) [NeZero n] (v x : Fin n) : v * ((0 - x) * (0 - x)) = v * (x * x) := by grind
theorem acrossG_true {r : F × Bool} {odd : Bool} (h : (acrossG r odd).2 = true) : r.2 = true ∧ ((acrossG r odd).1 = r.1 ∨ (acrossG r odd).1 = 0 - r.1) ∧ oddF (acrossG r odd).1 = odd := by
 unfold acrossG at *
 by_cases h1 : r.2 = false
 ·rw [if_pos h1] at h; cases h
 ·rw [if_neg h1] at *
  have h1' : r.2 = true := by simpa using h1
  by_cases h2 : oddF r.1 = odd
  ·rw [if_pos h2]; exact ⟨h1', .inl rfl, h2⟩
  ·rw [if_neg h2] at *
   exact ⟨h1', .inr rfl, eq_of_beq h⟩
theorem acrossG_false {r : F × Bool} {odd : Bool} (h : (acrossG r odd).2 = false) : r.2 = false ∨ oddF r.1 ≠ odd ∧ oddF (0 - r.1) ≠ odd := by
 unfold acrossG at h
 by_cases h1 : r.2 = false
 ·exact .inl h1
 ·rw [if_neg h1] at h
  by_cases h2 : oddF r.1 = odd
  ·rw [if_pos h2] at h; cases h
  ·rw [if_neg h2] at h
   exact .inr ⟨h2, fun h3 => by rw [beq_iff_eq.2 h3] at h; cases h⟩
theorem acrossF_true {y : F} {odd : Bool} (h : (acrossF y odd).2 = true) : OnP ((acrossF y odd).1, y) ∧ oddF (acrossF y odd).1 = odd := by
 obtain ⟨h1, h2, h3⟩ := acrossG_true (r := rootF (uy y) (vy y)) h
 have hr := rootF_true h1
 refine ⟨(on_iff _ _).2 ?_, h3⟩
 unfold acrossF
 rcases h2 with h2 | h2
 ·rw [h2]; exact hr
 ·rw [h2, gen_sqneg P]; exact hr
theorem gen_diff (n : Nat) [NeZero n] (v a b u : Fin n) (h1 : v * (a * a) = u) (h2 : v * (b * b) = u) : v * ((a - b) * (a + b)) = 0 := by grind
theorem gen_d1 (n : Nat) [NeZero n] (a b : Fin n) (h : a - b = 0) : a = b := by grind
theorem gen_d2 (n : Nat) [NeZero n] (a b : Fin n) (h : a + b = 0) : a = 0 - b := by grind
theorem same_or_neg {a b y : F} (h1 : OnP (a, y)) (h2 : OnP (b, y)) : a = b ∨ a = 0 - b := by
 have h3 := gen_diff P (vy y) a b (uy y) ((on_iff _ _).1 h1) ((on_iff _ _).1 h2)
 rcases mul_zero_cases h3 with h | h
 ·exact absurd h (vy_ne y)
 ·rcases mul_zero_cases h with h | h
  ·exact .inl (gen_d1 P _ _ h)
  ·exact .inr (gen_d2 P _ _ h)
theorem on_unique {a b y : F} (h1 : OnP (a, y)) (h2 : OnP (b, y)) (ho : oddF a = oddF b) : a = b := by
 rcases same_or_neg h1 h2 with h | h
 ·exact h
 ·by_cases h0 : b = 0
  ·rw [h, h0]; rfl
  ·rw [h, odd_neg h0] at ho
   cases hb : oddF b <;> rw [hb] at ho <;> cases ho
theorem acrossF_false {y : F} {odd : Bool} (h : (acrossF y odd).2 = false) (x : F) (hx : OnP (x, y)) : oddF x ≠ odd := by
 intro ho
 cases h1 : (rootF (uy y) (vy y)).2 with
 | false => exact rootF_false (vy_ne y) h1 x ((on_iff _ _).1 hx)
 | true =>
  have hr := (on_iff _ _).2 (rootF_true h1)
  rcases acrossG_false (r := rootF (uy y) (vy y)) h with h2 | h2
  ·rw [h1] at h2; cases h2
  ·rcases same_or_neg hx hr with h4 | h4
   ·exact h2.1 (by rw [← h4]; exact ho)
   ·exact h2.2 (by rw [← h4]; exact ho)
end Ed
end Go.Proofs.YtbojijefenfbgaaGreatDoor
namespace Go.Proofs.YtbojijefenfbgaaGreatDoor
open Go.RowKit
namespace Fw
open Bt
attribute [local go_sem] run_Add64_xy0 run_Add64_19 run_Add64_0c run_Sub64_xy0 run_Sub64_0c
attribute [local go_sem] UV.u_add UV.u_mul UV.u_sub UV.u_xor UV.u_and UV.u_or UV.u_shr UV.u_shl UV.u_not UV.u_notm UV.u_wrap_un run_Add64 run_Sub64 u_mul19
theorem addRow_z (a : Q) (n : BitVec 64) (w : World) :
  Calls Tryz.prog 242 #[.int .u64 0, .int .u64 0, .int .u64 0, .int .u64 0, .int .u64 (un a.a0), .int .u64 (un a.a1), .int .u64 (un a.a2), .int .u64 (un a.a3), .int .u64 (un n)] w
   fun e w' => e = .returned (.tuple #[.int .u64 (un (r0 zQ a n)), .int .u64 (un (r1 zQ a n)), .int .u64 (un (r2 zQ a n)), .int .u64 (un (r3 zQ a n)), .int .u64 (un (r4 zQ a n))]) ∧ w' = w := addRow_any zQ a n w
theorem addRow_38 (p a : Q) (w : World) :
  Calls Tryz.prog 242 #[.int .u64 (un p.a0), .int .u64 (un p.a1), .int .u64 (un p.a2), .int .u64 (un p.a3), .int .u64 (un a.a0), .int .u64 (un a.a1), .int .u64 (un a.a2), .int .u64 (un a.a3), .int .u64 38] w
   fun e w' => e = .returned (.tuple #[.int .u64 (un (r0 p a 38#64)), .int .u64 (un (r1 p a 38#64)), .int .u64 (un (r2 p a 38#64)), .int .u64 (un (r3 p a 38#64)), .int .u64 (un (r4 p a 38#64))]) ∧ w' = w := addRow_any p a 38#64 w
def fin5 (x0 x1 x2 x3 x4 : BitVec 64) : Q := ⟨x0 + 19#64 * (x4 <<< 1 ||| x3 >>> 63) + bv false, x1 + bv (carry x0 (19#64 * (x4 <<< 1 ||| x3 >>> 63)) false), x2 + bv (carry x1 0#64 (carry x0 (19#64 * (x4 <<< 1 ||| x3 >>> 63)) false)), (x3 &&& 9223372036854775807#64) + bv (carry x2 0#64 (carry x1 0#64 (carry x0 (19#64 * (x4 <<< 1 ||| x3 >>> 63)) false)))⟩
theorem fin5_eq (a b : Q) : fin5 (t0 a b) (t1 a b) (t2 a b) (t3 a b) (t4 a b) = mulQ a b := rfl
theorem below_drewN (k : Nat) (w : World) (n : Nat) : Below k w (w.drewN n) := ⟨rfl, rfl, rfl, Nat.le_refl _, fun _ _ => rfl⟩
theorem shr63 (x : BitVec 64) : un x / (9223372036854775808 : Int) = un (x >>> (63 : Nat)) := UV.u_shr x 63
attribute [local go_sem] shr63
theorem shl1 (x : BitVec 64) : IntKind.u64.wrap (un x * 2) = un (x <<< 1) := UV.u_shl x 1
set_option maxHeartbeats 400000 in
set_option maxRecDepth 100000 in
theorem mul_any (a b : Q) (w : World) :
  Calls Tryz.prog 179 #[.agg a.cells, .agg b.cells] w fun e w' => ∃ r : Q, e = .returned (.agg r.cells) ∧ r.num = (a.num * b.num) % PP ∧ Below w.heap.size w w' := by
 have HN : Hid _ := (mulQ_num a b).2
 have HS : Hid _ := (mulQ_num a b).1
 unfold Q.cells
 go_enter Tryz.func179, Tryz.ntmps179
 go_wp2_with fail
 refine wp_region_quiet_lit (by kernel_rfl) (by kernel_rfl) ?_
 repeat (first | go_big_quiet_step (fail) | quiet_step (fail))
 refine wpQuiet_nil ?_
 intro _ hw'
 obtain ⟨nq, hw''⟩ := hw'
 subst hw''
 go_wp2_with fail
 refine (addRow_z a b.a0 _).mono ?_
 rintro e w1 ⟨rfl, rfl⟩
 go_wp2_with fail
 refine (addRow_any (q1 a b) a b.a1 _).mono ?_
 rintro e w1 ⟨rfl, rfl⟩
 go_wp2_with fail
 refine (addRow_any (q2 a b) a b.a2 _).mono ?_
 rintro e w1 ⟨rfl, rfl⟩
 go_wp2_with fail
 refine (addRow_any (q3 a b) a b.a3 _).mono ?_
 rintro e w1 ⟨rfl, rfl⟩
 go_wp2_with fail
 refine (addRow_38 (lw a b) (q4 a b) _).mono ?_
 rintro e w1 ⟨rfl, rfl⟩
 have HF : Hid _ := fin5_eq a b
 unfold t0 t1 t2 t3 t4 at HF
 generalize r0 (lw a b) (q4 a b) 38#64 = x0 at HF ⊢
 generalize r1 (lw a b) (q4 a b) 38#64 = x1 at HF ⊢
 generalize r2 (lw a b) (q4 a b) 38#64 = x2 at HF ⊢
 generalize r3 (lw a b) (q4 a b) 38#64 = x3 at HF ⊢
 generalize r4 (lw a b) (q4 a b) 38#64 = x4 at HF ⊢
 have hand := and_top x3
 have h1 := shl1 x4
 go_wp2_with fail
 refine (settle_any (fin5 x0 x1 x2 x3 x4) (by rw [HF.out]; exact HS.out) _).mono ?_
 rintro e w1 ⟨r, rfl, hr, hb⟩
 have HR : Hid _ := hr
 have HB : Hid _ := hb
 clear hr hb hand h1
 have HG : Hid (w1.heap[w.heap.size + 1 + 1]? = some (.cells wordZero 161 (0, 0))) := (HB.out.block _ (by simp [World.drewN])).trans (by
  have := heap_alloc_new ((w.alloc (.cells a.cells 161)).alloc (.cells b.cells 161)) (.cells wordZero 161)
  simp only [World.size_alloc] at this
  exact this)
 go_wp2_with (refine wpList_store_row rfl 161 _ _ rfl (w.heap.size + 1 + 1) r.cells rfl rfl 161 wordZero HG.out (by kernel_rfl) rfl r.cells_one ?_)
 refine Own.ret_row Tryz.results179 rfl (w.heap.size + 1 + 1) 161 r.cells (0, 0) _ rfl (setRow_heap _ _ _ _ _ _ HG.out) Tryz.underlying161 rfl (by kernel_rfl) ⟨r, rfl, by rw [HR.out, HF.out, HN.out], ?_⟩
 have h3 : Below w.heap.size w ((((w.alloc (.cells a.cells 161)).alloc (.cells b.cells 161)).alloc (.cells wordZero 161)).drewN nq) := ((((Below.refl _ _).alloc (Nat.le_refl _) _).alloc (by simp) _).alloc (by simp; omega) _).trans (below_drewN _ _ nq)
 exact (h3.trans (HB.out.mono h3.size)).trans ((below_setRow _ _ _).mono (by omega))
theorem Q.ext_num {a b : Q} (h : a.num = b.num) : a = b := by
 obtain ⟨a0, a1, a2, a3⟩ := a
 obtain ⟨b0, b1, b2, b3⟩ := b
 unfold Q.num at h
 simp only at h
 have i0 := a0.isLt
 have i1 := a1.isLt
 have i2 := a2.isLt
 have j0 := b0.isLt
 have j1 := b1.isLt
 have j2 := b2.isLt
 have e0 : a0 = b0 := BitVec.eq_of_toNat_eq (by omega)
 have e1 : a1 = b1 := BitVec.eq_of_toNat_eq (by omega)
 have e2 : a2 = b2 := BitVec.eq_of_toNat_eq (by omega)
 have e3 : a3 = b3 := BitVec.eq_of_toNat_eq (by omega)
 rw [e0, e1, e2, e3]
def nq (n : Nat) : Q := ⟨BitVec.ofNat 64 n, BitVec.ofNat 64 (n / 18446744073709551616), BitVec.ofNat 64 (n / 340282366920938463463374607431768211456), BitVec.ofNat 64 (n / 6277101735386680763835789423207666416102355444464034512896)⟩
theorem nq_num {n : Nat} (h : n < 115792089237316195423570985008687907853269984665640564039457584007913129639936) : (nq n).num = n := by
 unfold nq Q.num
 simp only [BitVec.toNat_ofNat]
 omega
theorem nq_of {q : Q} {n : Nat} (h : q.num = n) : q = nq n := Q.ext_num (by rw [nq_num (by have := num_lt q; omega), h])
theorem fw_ex : ∃ f : Ed.F → Array Value, ∀ x, f x = (nq x.val).cells := ⟨_, fun _ => rfl⟩
noncomputable def fw : Ed.F → Array Value := Classical.choose fw_ex
theorem fw_def (x : Ed.F) : fw x = (nq x.val).cells := Classical.choose_spec fw_ex x
theorem fw_num (x : Ed.F) : (nq x.val).num = x.val := nq_num (Nat.lt_trans x.isLt (by decide))
theorem fw_one (x : Ed.F) : (fw x).all (·.oneCell') = true := by rw [fw_def]; exact (nq x.val).cells_one
theorem fw_size (x : Ed.F) : (fw x).size = 4 := by rw [fw_def]; rfl
theorem add_f (x y : Ed.F) (w : World) :
  Calls Tryz.prog 229 #[.agg (fw x), .agg (fw y)] w fun e w' => e = .returned (.agg (fw (x + y))) ∧ Below w.heap.size w w' := by
 rw [fw_def, fw_def, fw_def]
 refine (add_any (nq x.val) (nq y.val) (by rw [fw_num]; exact x.isLt) (by rw [fw_num]; exact y.isLt) w).mono fun e w' ⟨r, he, hr, hb⟩ => ⟨?_, hb⟩
 rw [fw_num, fw_num] at hr
 rw [he, nq_of hr]; rfl
theorem sub_f (x y : Ed.F) (w : World) :
  Calls Tryz.prog 226 #[.agg (fw x), .agg (fw y)] w fun e w' => e = .returned (.agg (fw (x - y))) ∧ Below w.heap.size w w' := by
 rw [fw_def, fw_def, fw_def]
 refine (sub_any (nq x.val) (nq y.val) (by rw [fw_num]; exact x.isLt) (by rw [fw_num]; exact y.isLt) w).mono fun e w' ⟨r, he, hr, hb⟩ => ⟨?_, hb⟩
 rw [fw_num, fw_num] at hr
 have hy := y.isLt
 have e1 : (x - y).val = (x.val + PP - y.val) % PP := by
  show (PP - y.val + x.val) % PP = _
  have hy' : y.val < PP := hy
  congr 1
  omega
 rw [he, nq_of hr, ← e1]
theorem mul_f (x y : Ed.F) (w : World) :
  Calls Tryz.prog 179 #[.agg (fw x), .agg (fw y)] w fun e w' => e = .returned (.agg (fw (x * y))) ∧ Below w.heap.size w w' := by
 rw [fw_def, fw_def, fw_def]
 refine (mul_any (nq x.val) (nq y.val) w).mono fun e w' ⟨r, he, hr, hb⟩ => ⟨?_, hb⟩
 rw [fw_num, fw_num] at hr
 rw [he, nq_of hr]; rfl
end Fw
end Go.Proofs.YtbojijefenfbgaaGreatDoor
namespace Go.Proofs.YtbojijefenfbgaaGreatDoor
open Go.RowKit
namespace Fw
open Bt
def WAt (w : World) (b : Nat) (x : Ed.F) : Prop := w.heap[b]? = some (.cells (fw x) 161 (0, 0))
theorem WAt.lt {w : World} {b : Nat} {x : Ed.F} (h : WAt w b x) : b < w.heap.size := (Array.getElem?_eq_some_iff.1 h).1
theorem WAt.below {w w' : World} {b : Nat} {x : Ed.F} (h : WAt w b x) {k : Nat} (hb : Below k w w') (hk : b < k) : WAt w' b x := (hb.block b hk).trans h
theorem fw_zero : fw 0 = wordZero := by rw [fw_def]; rfl
theorem WAt.zero {w : World} {b : Nat} (h : w.heap[b]? = some (.cells wordZero 161 (0, 0))) : WAt w b 0 := by unfold WAt; rw [fw_zero]; exact h
theorem sub_0 (x : Ed.F) (w : World) :
  Calls Tryz.prog 226 #[.agg #[.int .u64 0, .int .u64 0, .int .u64 0, .int .u64 0], .agg (fw x)] w fun e w' => e = .returned (.agg (fw (0 - x))) ∧ Below w.heap.size w w' := by
 have h := sub_f 0 x w
 rwa [fw_zero] at h
theorem alloc_at (w : World) (o : Obj) (b : Nat) (hb : b = w.heap.size) : (w.alloc o).heap[b]? = some o := by rw [hb]; exact heap_alloc_new w o
theorem WAt.setRow {w : World} {b : Nat} {x : Ed.F} (h : WAt w b x) (y : Ed.F) : WAt (w.setRow b (fw y)) b y := setRow_heap _ _ _ _ _ _ h
noncomputable abbrev W2 (w : World) (x : Ed.F) : World := (w.alloc (.cells (fw x) 161)).alloc (.cells wordZero 161)
noncomputable abbrev W3 (w : World) (x y : Ed.F) : World := ((w.alloc (.cells (fw x) 161)).alloc (.cells (fw y) 161)).alloc (.cells wordZero 161)
theorem W2_a (w : World) (x : Ed.F) : WAt (W2 w x) w.heap.size x := WAt.below (alloc_at w _ _ rfl) ((Below.refl (w.heap.size + 1) _).alloc (by simp) _) (by omega)
theorem W2_r (w : World) (x : Ed.F) : WAt (W2 w x) (w.heap.size + 1) 0 := .zero (alloc_at _ _ _ (by simp))
theorem W2_b (w : World) (x : Ed.F) : Below w.heap.size w (W2 w x) := ((Below.refl _ _).alloc (Nat.le_refl _) _).alloc (by simp) _
theorem W3_a (w : World) (x y : Ed.F) : WAt (W3 w x y) w.heap.size x := WAt.below (alloc_at w _ _ rfl) (((Below.refl (w.heap.size + 1) _).alloc (by simp) _).alloc (by simp) _) (by omega)
theorem W3_c (w : World) (x y : Ed.F) : WAt (W3 w x y) (w.heap.size + 1) y := WAt.below (alloc_at _ _ _ (by simp)) ((Below.refl (w.heap.size + 2) _).alloc (by simp) _) (by omega)
theorem W3_r (w : World) (x y : Ed.F) : WAt (W3 w x y) (w.heap.size + 1 + 1) 0 := .zero (alloc_at _ _ _ (by simp))
theorem W3_b (w : World) (x y : Ed.F) : Below w.heap.size w (W3 w x y) := (((Below.refl _ _).alloc (Nat.le_refl _) _).alloc (by simp) _).alloc (by simp; omega) _
theorem below_store {w W w1 : World} (h : Below w.heap.size w W) (h1 : Below W.heap.size W w1) (b : Nat) (hb : w.heap.size ≤ b) (cs : Array Value) : Below w.heap.size w (w1.setRow b cs) :=
 (h.trans (h1.mono h.size)).trans ((below_setRow w1 b cs).mono hb)
theorem load_w {ops : Array Oper} {rest : List Oper} {o : Oper} {a : Act} {w : World} {Q : Exit → Act → World → Prop} (hg : o.guard = none) (x : Operand) (ho : o.op = .load 161 x) (b : Nat) (v : Ed.F) (hx : a.eval x = .pointer (some ⟨b, 0, none⟩)) (hb : WAt w b v)
  (h : wpList Tryz.prog ops Q rest (a.put o.dst (.agg (fw v))) w) : wpList Tryz.prog ops Q (o :: rest) a w :=
 wpList_load_row hg 161 x ho b hx 161 (fw v) (0, 0) _ hb Tryz.underlying161 rfl (by rw [fw_size]; kernel_rfl) h
theorem store_w {ops : Array Oper} {rest : List Oper} {o : Oper} {a : Act} {w : World} {Q : Exit → Act → World → Prop} (hg : o.guard = none) (x y : Operand) (ho : o.op = .store 161 x y) (b : Nat) (v old : Ed.F) (hx : a.eval x = .pointer (some ⟨b, 0, none⟩)) (hy : a.eval y = .agg (fw v)) (hb : WAt w b old)
  (h : wpList Tryz.prog ops Q rest (a.put o.dst undef) (w.setRow b (fw v))) : wpList Tryz.prog ops Q (o :: rest) a w :=
 wpList_store_row hg 161 x y ho b (fw v) hx hy 161 (fw old) hb (by rw [fw_size]; kernel_rfl) ((fw_size _).trans (fw_size _).symm) (fw_one v) h
theorem ret_w {fn : Func} {p : Tmp} (h : fn.results = #[.cell p 161]) {post : Ending → World → Prop} {a : Act} {w : World} (hd : a.defers = []) (g : Nat) (v : Ed.F) (hp : a.tmps.getD p undef = .pointer (some ⟨g, 0, none⟩)) (hg : WAt w g v) (hpost : post (.returned (.agg (fw v))) w) :
  bodyPost Tryz.prog fn post .ret a w :=
 Own.ret_row h hd g 161 (fw v) (0, 0) _ hp hg Tryz.underlying161 rfl (by rw [fw_size]; kernel_rfl) hpost
theorem q_word {ops : Array Oper} {w : World} {Q : Act → Prop} {rest : List Oper} {o : Oper} {a : Act} (hg : o.guard = none) (x : Operand) (ho : o.op = .load 161 x) (b : Nat) (v : Ed.F) (hx : a.eval x = .pointer (some ⟨b, 0, none⟩)) (hb : WAt w b v)
  (h : wpQuiet Tryz.prog ops (Qt.BW w) Q rest (a.put o.dst (.agg (fw v)))) : wpQuiet Tryz.prog ops (Qt.BW w) Q (o :: rest) a :=
 Qt.q_row hg 161 x ho b hx 161 (fw v) (0, 0) _ hb Tryz.underlying161 rfl (by rw [fw_size]; kernel_rfl) h
set_option maxHeartbeats 400000 in
theorem square_f (x : Ed.F) (w : World) :
  Calls Tryz.prog 224 #[.agg (fw x)] w fun e w' => e = .returned (.agg (fw (x * x))) ∧ Below w.heap.size w w' := by
 go_enter Tryz.func224, Tryz.ntmps224
 go_wp2_with (refine load_w rfl _ rfl w.heap.size x rfl (W2_a w x) ?_)
 refine (mul_f x x _).mono ?_
 rintro e w1 ⟨rfl, hb⟩
 have HB : Hid (Below (W2 w x).heap.size (W2 w x) w1) := hb
 clear hb
 have HR : Hid (WAt w1 (w.heap.size + 1) 0) := (W2_r w x).below HB.out (W2_r w x).lt
 go_wp2_with (refine store_w rfl _ _ rfl (w.heap.size + 1) (x * x) 0 rfl rfl HR.out ?_)
 exact ret_w Tryz.results224 rfl (w.heap.size + 1) (x * x) rfl (HR.out.setRow _) ⟨rfl, below_store (W2_b w x) HB.out _ (by omega) _⟩
set_option maxHeartbeats 400000 in
theorem neg_f (x : Ed.F) (w : World) :
  Calls Tryz.prog 177 #[.agg (fw x)] w fun e w' => e = .returned (.agg (fw (0 - x))) ∧ Below w.heap.size w w' := by
 go_enter Tryz.func177, Tryz.ntmps177
 go_wp2_with (refine load_w rfl _ rfl w.heap.size x rfl (W2_a w x) ?_)
 refine (sub_0 x _).mono ?_
 rintro e w1 ⟨rfl, hb⟩
 have HB : Hid (Below (W2 w x).heap.size (W2 w x) w1) := hb
 clear hb
 have HR : Hid (WAt w1 (w.heap.size + 1) 0) := (W2_r w x).below HB.out (W2_r w x).lt
 go_wp2_with (refine store_w rfl _ _ rfl (w.heap.size + 1) (0 - x) 0 rfl rfl HR.out ?_)
 exact ret_w Tryz.results177 rfl (w.heap.size + 1) (0 - x) rfl (HR.out.setRow _) ⟨rfl, below_store (W2_b w x) HB.out _ (by omega) _⟩
theorem fpow_sq (x : Ed.F) (k : Nat) : Ed.fpow x (2 ^ k) * Ed.fpow x (2 ^ k) = Ed.fpow x (2 ^ (k + 1)) := by
 rw [← Ed.fpow_add, Nat.pow_succ]
 congr 1
 omega
theorem WAt.other {w : World} {b c : Nat} {x : Ed.F} (h : WAt w b x) (hne : b ≠ c) (cs : Array Value) : WAt (w.setRow c cs) b x := by
 unfold WAt at *
 rw [← h]
 show (Array.modify _ _ _)[b]? = _
 rw [Array.getElem?_modify, if_neg (Ne.symm hne)]
set_option maxHeartbeats 400000 in
theorem squares_f (x : Ed.F) (n : Nat) (hn : n ≤ 1000) (w : World) :
  Calls Tryz.prog 241 #[.agg (fw x), .int .i64 n] w fun e w' => e = .returned (.agg (fw (Ed.fpow x (2 ^ n)))) ∧ Below w.heap.size w w' := by
 go_enter Tryz.func241, Tryz.ntmps241
 go_wp2_with fail
 go_loopw [6] (fun i wq => ∃ k : Nat, k ≤ n ∧ i = .int .i64 (k : Int) ∧ WAt wq w.heap.size (Ed.fpow x (2 ^ k)) ∧ WAt wq (w.heap.size + 1) 0 ∧ Below w.heap.size w wq) (fun i _ => n - (intOf i).toNat)
 case atStart => exact ⟨0, by omega, rfl, by rw [Nat.pow_zero, Ed.fpow_one]; exact W2_a w x, W2_r w x, W2_b w x⟩
 case round =>
  rename World => wa
  obtain ⟨k, hk, rfl, ha, hr, hb⟩ := hrel
  have HA : Hid (WAt wa w.heap.size (Ed.fpow x (2 ^ k))) := ha
  have HR : Hid (WAt wa (w.heap.size + 1) 0) := hr
  have HB : Hid (Below w.heap.size w wa) := hb
  clear ha hr hb
  by_cases hkn : k < n
  ·go_wp2_with (first
    | (go_at_call 224; refine (square_f (Ed.fpow x (2 ^ k)) _).mono ?_; rintro e w2 ⟨rfl, hb2⟩; rw [fpow_sq] at *; have HB2 : Hid (Below wa.heap.size wa w2) := hb2; clear hb2)
    | refine load_w rfl _ rfl w.heap.size (Ed.fpow x (2 ^ k)) rfl HA.out ?_
    | refine store_w rfl _ _ rfl w.heap.size (Ed.fpow x (2 ^ (k + 1))) (Ed.fpow x (2 ^ k)) rfl rfl (HA.out.below HB2.out HA.out.lt) ?_)
   exact ⟨⟨k + 1, by omega, by go_num, (HA.out.below HB2.out HA.out.lt).setRow _, (HR.out.below HB2.out HR.out.lt).other (by omega) _, below_store HB.out HB2.out _ (Nat.le_refl _) _⟩, by simp [intOf]; omega⟩
  ·obtain rfl : k = n := by omega
   go_wp2_with (first
    | refine load_w rfl _ rfl w.heap.size (Ed.fpow x (2 ^ k)) rfl HA.out ?_
    | refine store_w rfl _ _ rfl (w.heap.size + 1) (Ed.fpow x (2 ^ k)) 0 rfl rfl HR.out ?_)
   exact ret_w Tryz.results241 rfl (w.heap.size + 1) (Ed.fpow x (2 ^ k)) rfl (HR.out.setRow _) ⟨rfl, HB.out.trans ((below_setRow _ _ _).mono (by omega))⟩
set_option maxHeartbeats 400000 in
theorem join_f (x y : Ed.F) (n : Nat) (hn : n ≤ 1000) (w : World) :
  Calls Tryz.prog 273 #[.agg (fw x), .int .i64 n, .agg (fw y)] w fun e w' => e = .returned (.agg (fw (Ed.fpow x (2 ^ n) * y))) ∧ Below w.heap.size w w' := by
 go_enter Tryz.func273, Tryz.ntmps273
 go_wp2_with fail
 refine Qt.wp_region_below_tail 5 (by kernel_rfl) (by kernel_rfl) ?_
 refine q_word rfl _ rfl w.heap.size x rfl (W3_a w x y) ?_
 refine Qt.q_val rfl _ (fun _ _ => rfl) ?_
 refine Qt.q_call rfl 241 #[.agg (fw x), .int .i64 n] _ (fun _ => by kernel_rfl) (fun w' _ => squares_f x n hn w') ?_
 refine q_word rfl _ rfl (w.heap.size + 1) y rfl (W3_c w x y) ?_
 refine Qt.q_call rfl 179 #[.agg (fw (Ed.fpow x (2 ^ n))), .agg (fw y)] _ (fun _ => by kernel_rfl) (fun w' _ => mul_f _ y w') ?_
 refine wpQuiet_nil ?_
 intro w1 hb
 have HB : Hid (Below (W3 w x y).heap.size (W3 w x y) w1) := hb
 clear hb
 have HR : Hid (WAt w1 (w.heap.size + 1 + 1) 0) := (W3_r w x y).below HB.out (W3_r w x y).lt
 refine store_w rfl _ _ rfl (w.heap.size + 1 + 1) (Ed.fpow x (2 ^ n) * y) 0 rfl rfl HR.out ?_
 go_wp2_with fail
 exact ret_w Tryz.results273 rfl (w.heap.size + 1 + 1) (Ed.fpow x (2 ^ n) * y) rfl (HR.out.setRow _) ⟨rfl, below_store (W3_b w x y) HB.out _ (by omega) _⟩
end Fw
end Go.Proofs.YtbojijefenfbgaaGreatDoor
