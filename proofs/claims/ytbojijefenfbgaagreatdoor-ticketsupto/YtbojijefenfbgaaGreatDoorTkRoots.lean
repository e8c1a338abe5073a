/- Roots in the field, and the x of a point by its y. -/
/- The program's words of the field as elements of F: Add, Sub, Mul. -/
/- Walks of the document's own reckoning: below, less. -/
import Derived.Test.YtbojijefenfbgaaGreatDoorTkFld
import Derived.KernelRfl
import Derived.Test.YtbojijefenfbgaaGreatDoorTkDocA
namespace Go.Proofs.YtbojijefenfbgaaGreatDoor
namespace Ed

def e8 : Nat := 7237005577332262213973186563042994240829374041602535252466099000494570602493
theorem half_pm {g : F} (hg : g ≠ 0) : fpow g 28948022309329048855892746252171976963317496166410141009864396001978282409974 = 1 ∨ fpow g 28948022309329048855892746252171976963317496166410141009864396001978282409974 = -1 := by
  have h := fermat hg
  rw [show P - 1 = 28948022309329048855892746252171976963317496166410141009864396001978282409974 + 28948022309329048855892746252171976963317496166410141009864396001978282409974 from by decide, fpow_add] at h
  generalize fpow g 28948022309329048855892746252171976963317496166410141009864396001978282409974 = s at *
  have h2 : (s - 1) * (s + 1) = 0 := by
    have : ∀ (n : Nat) [NeZero n] (s : Fin n), s * s = 1 → (s - 1) * (s + 1) = 0 := by intro n _ s h; grind
    exact this P s h
  rcases mul_zero_cases h2 with h3 | h3
  · left
    have : ∀ (n : Nat) [NeZero n] (s : Fin n), s - 1 = 0 → s = 1 := by intro n _ s h; grind
    exact this P s h3
  · right
    have : ∀ (n : Nat) [NeZero n] (s : Fin n), s + 1 = 0 → s = -1 := by intro n _ s h; grind
    exact this P s h3

/-- The program's root of u / v. -/
def rootC (u v : F) : F := u * (v * v * v) * fpow (u * (v * v * v * (v * v * v) * v)) e8
def rootG (u v r : F) : F × Bool := if v * (r * r) = u then (r, true) else if v * (r * r) = 0 - u then (r * iI, true) else (0, false)
def rootF (u v : F) : F × Bool := rootG u v (rootC u v)
theorem gen_ri (n : Nat) [NeZero n] (u v r i : Fin n) (hi : i * i = -1) (h : v * (r * r) = 0 - u) : v * (r * i * (r * i)) = u := by grind
theorem rootG_true {u v r : F} (h : (rootG u v r).2 = true) : v * ((rootG u v r).1 * (rootG u v r).1) = u := by
  unfold rootG at *
  by_cases h1 : v * (r * r) = u
  · rw [if_pos h1]; exact h1
  · rw [if_neg h1] at *
    by_cases h2 : v * (r * r) = 0 - u
    · rw [if_pos h2]; exact gen_ri P u v _ iI iI_sq h2
    · rw [if_neg h2] at h; cases h
theorem rootG_false {u v r : F} (h : (rootG u v r).2 = false) : v * (r * r) ≠ u ∧ v * (r * r) ≠ 0 - u := by
  unfold rootG at h
  by_cases h1 : v * (r * r) = u
  · rw [if_pos h1] at h; cases h
  · rw [if_neg h1] at h
    by_cases h2 : v * (r * r) = 0 - u
    · rw [if_pos h2] at h; cases h
    · exact ⟨h1, h2⟩
theorem rootF_true {u v : F} (h : (rootF u v).2 = true) : v * ((rootF u v).1 * (rootF u v).1) = u := rootG_true (r := rootC u v) h
theorem gen_r0 (n : Nat) [NeZero n] (v a b c : Fin n) (u : Fin n) (hu : u = 0) : v * (u * a * b * (u * a * c)) = u := by grind
theorem gen_r1 (n : Nat) [NeZero n] (v x : Fin n) : v * (x * x) * (v * v * v * (v * v * v) * v) = v * v * (v * v) * x * (v * v * (v * v) * x) := by grind
theorem gen_r2 (n : Nat) [NeZero n] (u v s k : Fin n) (h : k = u * (v * v * v * (v * v * v) * v)) : v * (u * (v * v * v) * s * (u * (v * v * v) * s)) = u * (k * (s * s)) := by grind
theorem gen_pm (n : Nat) [NeZero n] (u k : Fin n) (h : k = -1) : u * k = 0 - u := by grind
theorem gen_p1 (n : Nat) [NeZero n] (u k : Fin n) (h : k = 1) : u * k = u := by grind
theorem rootC_sq {u v x : F} (hv : v ≠ 0) (hx : x ≠ 0) (h : v * (x * x) = u) : v * (rootC u v * rootC u v) = u ∨ v * (rootC u v * rootC u v) = 0 - u := by
  have hk : u * (v * v * v * (v * v * v) * v) = v * v * (v * v) * x * (v * v * (v * v) * x) := by rw [← h]; exact gen_r1 P v x
  have hg : v * v * (v * v) * x ≠ 0 := mul_ne (mul_ne (mul_ne hv hv) (mul_ne hv hv)) hx
  have hr := gen_r2 P u v (fpow (u * (v * v * v * (v * v * v) * v)) e8) _ rfl
  rw [show v * (rootC u v * rootC u v) = v * (u * (v * v * v) * fpow (u * (v * v * v * (v * v * v) * v)) e8 * (u * (v * v * v) * fpow (u * (v * v * v * (v * v * v) * v)) e8)) from rfl, hr, hk]
  generalize v * v * (v * v) * x = g at hg
  have hs : g * g * (fpow (g * g) e8 * fpow (g * g) e8) = fpow g 28948022309329048855892746252171976963317496166410141009864396001978282409974 := by
    have e1 : g * g = fpow g 2 := by rw [show (2 : Nat) = 1 + 1 from rfl, fpow_add, fpow_one]
    rw [e1, fpow_mul, ← fpow_add, ← fpow_add]
    congr 1
  rw [hs]
  rcases half_pm hg with h1 | h1
  · left; exact gen_p1 P u _ h1
  · right; exact gen_pm P u _ h1
theorem gen_ux (n : Nat) [NeZero n] (u v x : Fin n) (h0 : x = 0) (h : v * (x * x) = u) : u = 0 := by grind
theorem rootC_zero {u v : F} (hu : u = 0) : v * (rootC u v * rootC u v) = u := gen_r0 P v _ _ _ u hu
theorem rootF_false {u v : F} (hv : v ≠ 0) (h : (rootF u v).2 = false) (x : F) : v * (x * x) ≠ u := by
  intro hx
  have hn := rootG_false (r := rootC u v) h
  by_cases h0 : x = 0
  · exact hn.1 (rootC_zero (gen_ux P u v x h0 hx))
  · rcases rootC_sq hv h0 hx with h3 | h3
    · exact hn.1 h3
    · exact hn.2 h3
/-- The document's root. -/
def rootRG (a r i : F) : F × Bool := if r * r = a then (r, true) else (r * i, decide (r * i * (r * i) = a))
theorem rootRG_true {a r i : F} (h : (rootRG a r i).2 = true) : (rootRG a r i).1 * (rootRG a r i).1 = a := by
  unfold rootRG at *
  by_cases h1 : r * r = a
  · rw [if_pos h1]; exact h1
  · rw [if_neg h1] at *; exact of_decide_eq_true h
theorem rootRG_false {a r i : F} (h : (rootRG a r i).2 = false) : r * r ≠ a ∧ r * i * (r * i) ≠ a := by
  unfold rootRG at h
  by_cases h1 : r * r = a
  · rw [if_pos h1] at h; cases h
  · rw [if_neg h1] at h; exact ⟨h1, of_decide_eq_false h⟩
def rt (a : F) : F := fpow a 7237005577332262213973186563042994240829374041602535252466099000494570602494
def i2 : F := fpow 2 14474011154664524427946373126085988481658748083205070504932198000989141204987
def rootR (a : F) : F × Bool := rootRG a (rt a) i2
theorem i2_eq : i2 = iI := by
  apply Fin.ext
  unfold i2
  rw [fpow_eval 2 14474011154664524427946373126085988481658748083205070504932198000989141204987 254 iI.val (by decide) (by kernel_rfl)]
theorem gen_rr (n : Nat) [NeZero n] (a r i : Fin n) (hi : i * i = -1) (h : r * r = a * -1) : r * i * (r * i) = a := by grind
theorem rt_zero : rt 0 = 0 := by
  apply Fin.ext
  unfold rt
  rw [fpow_eval 0 7237005577332262213973186563042994240829374041602535252466099000494570602494 253 0 (by decide) (by kernel_rfl)]
  rfl
theorem rt_sq {a x : F} (hx : x * x = a) : rt a * rt a = a * fpow x 28948022309329048855892746252171976963317496166410141009864396001978282409974 := by
  have e1 : a = fpow x 2 := by rw [← hx, show (2 : Nat) = 1 + 1 from rfl, fpow_add, fpow_one]
  unfold rt
  rw [e1, fpow_mul, ← fpow_add, ← fpow_add]
theorem gen_00 (n : Nat) [NeZero n] (x a : Fin n) (h0 : x = 0) (h : x * x = a) : a = 0 := by grind
theorem rootR_true {a : F} (h : (rootR a).2 = true) : (rootR a).1 * (rootR a).1 = a := rootRG_true (r := rt a) (i := i2) h
theorem rootR_false {a : F} (h : (rootR a).2 = false) (x : F) : x * x ≠ a := by
  intro hx
  have hn := rootRG_false (r := rt a) (i := i2) h
  rw [i2_eq] at hn
  by_cases h0 : x = 0
  · have ha : a = 0 := gen_00 P x a h0 hx
    refine hn.1 ?_
    rw [ha, rt_zero]
    exact gen_00 P 0 _ rfl rfl
  · have hs := rt_sq hx
    rcases half_pm h0 with h3 | h3
    · refine hn.1 ?_; rw [hs, h3]; exact gen_p1 P a 1 rfl
    · refine hn.2 ?_; rw [h3] at hs; exact gen_rr P a _ iI iI_sq hs

/-! The x of a point by its y -/
def vy (y : F) : F := dD * (y * y) + 1
def uy (y : F) : F := y * y - 1
theorem gen_v0 (n : Nat) [NeZero n] (y c d i : Fin n) (h : d * c = 1) (hi : i * i = -1) (h0 : d * (y * y) + 1 = 0) : i * y * (i * y) = c := by
  have : y * y = -c := by
    have : c * (d * (y * y) + 1) = 0 := by rw [h0]; grind
    grind
  grind
theorem vy_ne (y : F) : vy y ≠ 0 := fun h => cC_nonsquare (iI * y) (gen_v0 P y cC dD iI dD_cC iI_sq h)
theorem gen_on_iff1 (n : Nat) [NeZero n] (x y c d : Fin n) (h : d * c = 1) (ho : x * x * (y * y) = c * (y * y - x * x - 1)) : (d * (y * y) + 1) * (x * x) = y * y - 1 := by
  have e : d * (x * x * (y * y)) = y * y - x * x - 1 := by rw [ho]; grind
  grind
theorem gen_on_iff2 (n : Nat) [NeZero n] (x y c d : Fin n) (h : d * c = 1) (ho : (d * (y * y) + 1) * (x * x) = y * y - 1) : x * x * (y * y) = c * (y * y - x * x - 1) := by
  have e : c * (d * (y * y) * (x * x)) = x * x * (y * y) := by grind
  have e2 : d * (y * y) * (x * x) = y * y - x * x - 1 := by grind
  rw [← e, e2]
theorem on_iff (x y : F) : OnP (x, y) ↔ vy y * (x * x) = uy y := ⟨fun h => gen_on_iff1 P x y cC dD dD_cC h, fun h => gen_on_iff2 P x y cC dD dD_cC h⟩
def oddF (x : F) : Bool := x.val % 2 == 1
def acrossG (r : F × Bool) (odd : Bool) : F × Bool := if r.2 = false then (0, false) else if oddF r.1 = odd then (r.1, true) else (0 - r.1, oddF (0 - r.1) == odd)
def acrossF (y : F) (odd : Bool) : F × Bool := acrossG (rootF (uy y) (vy y)) odd
theorem neg_val {x : F} (h : x ≠ 0) : (0 - x).val = P - x.val := by
  have h1 : x.val ≠ 0 := fun h0 => h (Fin.ext h0)
  show (P - x.val + 0) % P = _
  rw [Nat.add_zero]
  exact Nat.mod_eq_of_lt (by have := x.isLt; omega)
theorem odd_neg {x : F} (h : x ≠ 0) : oddF (0 - x) = !oddF x := by
  have h1 := x.isLt
  unfold oddF
  rw [neg_val h]
  have hP : P % 2 = 1 := by decide
  rcases Nat.mod_two_eq_zero_or_one x.val with h2 | h2
  · have : (P - x.val) % 2 = 1 := by omega
    rw [h2, this]; rfl
  · have : (P - x.val) % 2 = 0 := by omega
    rw [h2, this]; rfl
theorem gen_sqneg (n : Nat) [NeZero n] (v x : Fin n) : v * ((0 - x) * (0 - x)) = v * (x * x) := by grind
theorem acrossG_true {r : F × Bool} {odd : Bool} (h : (acrossG r odd).2 = true) : r.2 = true ∧ ((acrossG r odd).1 = r.1 ∨ (acrossG r odd).1 = 0 - r.1) ∧ oddF (acrossG r odd).1 = odd := by
  unfold acrossG at *
  by_cases h1 : r.2 = false
  · rw [if_pos h1] at h; cases h
  · rw [if_neg h1] at *
    have h1' : r.2 = true := by simpa using h1
    by_cases h2 : oddF r.1 = odd
    · rw [if_pos h2]; exact ⟨h1', .inl rfl, h2⟩
    · rw [if_neg h2] at *
      exact ⟨h1', .inr rfl, eq_of_beq h⟩
theorem acrossG_false {r : F × Bool} {odd : Bool} (h : (acrossG r odd).2 = false) : r.2 = false ∨ oddF r.1 ≠ odd ∧ oddF (0 - r.1) ≠ odd := by
  unfold acrossG at h
  by_cases h1 : r.2 = false
  · exact .inl h1
  · rw [if_neg h1] at h
    by_cases h2 : oddF r.1 = odd
    · rw [if_pos h2] at h; cases h
    · rw [if_neg h2] at h
      exact .inr ⟨h2, fun h3 => by rw [beq_iff_eq.2 h3] at h; cases h⟩
theorem acrossF_true {y : F} {odd : Bool} (h : (acrossF y odd).2 = true) : OnP ((acrossF y odd).1, y) ∧ oddF (acrossF y odd).1 = odd := by
  obtain ⟨h1, h2, h3⟩ := acrossG_true (r := rootF (uy y) (vy y)) h
  have hr := rootF_true h1
  refine ⟨(on_iff _ _).2 ?_, h3⟩
  unfold acrossF
  rcases h2 with h2 | h2
  · rw [h2]; exact hr
  · rw [h2, gen_sqneg P]; exact hr
theorem gen_diff (n : Nat) [NeZero n] (v a b u : Fin n) (h1 : v * (a * a) = u) (h2 : v * (b * b) = u) : v * ((a - b) * (a + b)) = 0 := by grind
theorem gen_d1 (n : Nat) [NeZero n] (a b : Fin n) (h : a - b = 0) : a = b := by grind
theorem gen_d2 (n : Nat) [NeZero n] (a b : Fin n) (h : a + b = 0) : a = 0 - b := by grind
theorem same_or_neg {a b y : F} (h1 : OnP (a, y)) (h2 : OnP (b, y)) : a = b ∨ a = 0 - b := by
  have h3 := gen_diff P (vy y) a b (uy y) ((on_iff _ _).1 h1) ((on_iff _ _).1 h2)
  rcases mul_zero_cases h3 with h | h
  · exact absurd h (vy_ne y)
  · rcases mul_zero_cases h with h | h
    · exact .inl (gen_d1 P _ _ h)
    · exact .inr (gen_d2 P _ _ h)
theorem on_unique {a b y : F} (h1 : OnP (a, y)) (h2 : OnP (b, y)) (ho : oddF a = oddF b) : a = b := by
  rcases same_or_neg h1 h2 with h | h
  · exact h
  · by_cases h0 : b = 0
    · rw [h, h0]; rfl
    · rw [h, odd_neg h0] at ho
      cases hb : oddF b <;> rw [hb] at ho <;> cases ho
theorem acrossF_false {y : F} {odd : Bool} (h : (acrossF y odd).2 = false) (x : F) (hx : OnP (x, y)) : oddF x ≠ odd := by
  intro ho
  cases h1 : (rootF (uy y) (vy y)).2 with
  | false => exact rootF_false (vy_ne y) h1 x ((on_iff _ _).1 hx)
  | true =>
    have hr := (on_iff _ _).2 (rootF_true h1)
    rcases acrossG_false (r := rootF (uy y) (vy y)) h with h2 | h2
    · rw [h1] at h2; cases h2
    · rcases same_or_neg hx hr with h4 | h4
      · exact h2.1 (by rw [← h4]; exact ho)
      · exact h2.2 (by rw [← h4]; exact ho)
end Ed
end Go.Proofs.YtbojijefenfbgaaGreatDoor
namespace Go.Proofs.YtbojijefenfbgaaGreatDoor
open Go.RowKit
namespace Fw
open Bt
attribute [local go_sem] run_Add64_xy0 run_Add64_19 run_Add64_0c run_Sub64_xy0 run_Sub64_0c
attribute [local go_sem] UV.u_add UV.u_mul UV.u_sub UV.u_xor UV.u_and UV.u_or UV.u_shr UV.u_shl UV.u_not UV.u_notm UV.u_wrap_un run_Add64 run_Sub64 u_mul19

theorem addRow_z (a : Q) (n : BitVec 64) (w : World) :
    Calls Tryz.prog 242 #[.int .u64 0, .int .u64 0, .int .u64 0, .int .u64 0, .int .u64 (un a.a0), .int .u64 (un a.a1), .int .u64 (un a.a2), .int .u64 (un a.a3), .int .u64 (un n)] w
      fun e w' => e = .returned (.tuple #[.int .u64 (un (r0 zQ a n)), .int .u64 (un (r1 zQ a n)), .int .u64 (un (r2 zQ a n)), .int .u64 (un (r3 zQ a n)), .int .u64 (un (r4 zQ a n))]) ∧ w' = w := addRow_any zQ a n w
theorem addRow_38 (p a : Q) (w : World) :
    Calls Tryz.prog 242 #[.int .u64 (un p.a0), .int .u64 (un p.a1), .int .u64 (un p.a2), .int .u64 (un p.a3), .int .u64 (un a.a0), .int .u64 (un a.a1), .int .u64 (un a.a2), .int .u64 (un a.a3), .int .u64 38] w
      fun e w' => e = .returned (.tuple #[.int .u64 (un (r0 p a 38#64)), .int .u64 (un (r1 p a 38#64)), .int .u64 (un (r2 p a 38#64)), .int .u64 (un (r3 p a 38#64)), .int .u64 (un (r4 p a 38#64))]) ∧ w' = w := addRow_any p a 38#64 w
/-- The last step of Mul. -/
def fin5 (x0 x1 x2 x3 x4 : BitVec 64) : Q := ⟨x0 + 19#64 * (x4 <<< 1 ||| x3 >>> 63) + bv false, x1 + bv (carry x0 (19#64 * (x4 <<< 1 ||| x3 >>> 63)) false), x2 + bv (carry x1 0#64 (carry x0 (19#64 * (x4 <<< 1 ||| x3 >>> 63)) false)), (x3 &&& 9223372036854775807#64) + bv (carry x2 0#64 (carry x1 0#64 (carry x0 (19#64 * (x4 <<< 1 ||| x3 >>> 63)) false)))⟩
theorem fin5_eq (a b : Q) : fin5 (t0 a b) (t1 a b) (t2 a b) (t3 a b) (t4 a b) = mulQ a b := rfl
theorem below_drewN (k : Nat) (w : World) (n : Nat) : Below k w (w.drewN n) := ⟨rfl, rfl, rfl, Nat.le_refl _, fun _ _ => rfl⟩
theorem shr63 (x : BitVec 64) : un x / (9223372036854775808 : Int) = un (x >>> (63 : Nat)) := UV.u_shr x 63
attribute [local go_sem] shr63
theorem shl1 (x : BitVec 64) : IntKind.u64.wrap (un x * 2) = un (x <<< 1) := UV.u_shl x 1

set_option maxHeartbeats 400000 in
set_option maxRecDepth 100000 in
theorem mul_any (a b : Q) (w : World) :
    Calls Tryz.prog 179 #[.agg a.cells, .agg b.cells] w fun e w' => ∃ r : Q, e = .returned (.agg r.cells) ∧ r.num = (a.num * b.num) % PP ∧ Below w.heap.size w w' := by
  have HN : Hid _ := (mulQ_num a b).2
  have HS : Hid _ := (mulQ_num a b).1
  unfold Q.cells
  go_enter Tryz.func179, Tryz.ntmps179
  go_wp2_with fail
  refine wp_region_quiet_lit (by kernel_rfl) (by kernel_rfl) ?_
  repeat (first | go_big_quiet_step (fail) | quiet_step (fail))
  refine wpQuiet_nil ?_
  intro _ hw'
  obtain ⟨nq, hw''⟩ := hw'
  subst hw''
  go_wp2_with fail
  refine (addRow_z a b.a0 _).mono ?_
  rintro e w1 ⟨rfl, rfl⟩
  go_wp2_with fail
  refine (addRow_any (q1 a b) a b.a1 _).mono ?_
  rintro e w1 ⟨rfl, rfl⟩
  go_wp2_with fail
  refine (addRow_any (q2 a b) a b.a2 _).mono ?_
  rintro e w1 ⟨rfl, rfl⟩
  go_wp2_with fail
  refine (addRow_any (q3 a b) a b.a3 _).mono ?_
  rintro e w1 ⟨rfl, rfl⟩
  go_wp2_with fail
  refine (addRow_38 (lw a b) (q4 a b) _).mono ?_
  rintro e w1 ⟨rfl, rfl⟩
  have HF : Hid _ := fin5_eq a b
  unfold t0 t1 t2 t3 t4 at HF
  generalize r0 (lw a b) (q4 a b) 38#64 = x0 at HF ⊢
  generalize r1 (lw a b) (q4 a b) 38#64 = x1 at HF ⊢
  generalize r2 (lw a b) (q4 a b) 38#64 = x2 at HF ⊢
  generalize r3 (lw a b) (q4 a b) 38#64 = x3 at HF ⊢
  generalize r4 (lw a b) (q4 a b) 38#64 = x4 at HF ⊢
  have hand := and_top x3
  have h1 := shl1 x4
  go_wp2_with fail
  refine (settle_any (fin5 x0 x1 x2 x3 x4) (by rw [HF.out]; exact HS.out) _).mono ?_
  rintro e w1 ⟨r, rfl, hr, hb⟩
  have HR : Hid _ := hr
  have HB : Hid _ := hb
  clear hr hb hand h1
  have HG : Hid (w1.heap[w.heap.size + 1 + 1]? = some (.cells wordZero 161 (0, 0))) := (HB.out.block _ (by simp [World.drewN])).trans (by
    have := heap_alloc_new ((w.alloc (.cells a.cells 161)).alloc (.cells b.cells 161)) (.cells wordZero 161)
    simp only [World.size_alloc] at this
    exact this)
  go_wp2_with (refine wpList_store_row rfl 161 _ _ rfl (w.heap.size + 1 + 1) r.cells rfl rfl 161 wordZero HG.out (by kernel_rfl) rfl r.cells_one ?_)
  refine Own.ret_row Tryz.results179 rfl (w.heap.size + 1 + 1) 161 r.cells (0, 0) _ rfl (setRow_heap _ _ _ _ _ _ HG.out) Tryz.underlying161 rfl (by kernel_rfl) ⟨r, rfl, by rw [HR.out, HF.out, HN.out], ?_⟩
  have h3 : Below w.heap.size w ((((w.alloc (.cells a.cells 161)).alloc (.cells b.cells 161)).alloc (.cells wordZero 161)).drewN nq) := ((((Below.refl _ _).alloc (Nat.le_refl _) _).alloc (by simp) _).alloc (by simp; omega) _).trans (below_drewN _ _ nq)
  exact (h3.trans (HB.out.mono h3.size)).trans ((below_setRow _ _ _).mono (by omega))

theorem Q.ext_num {a b : Q} (h : a.num = b.num) : a = b := by
  obtain ⟨a0, a1, a2, a3⟩ := a
  obtain ⟨b0, b1, b2, b3⟩ := b
  unfold Q.num at h
  simp only at h
  have i0 := a0.isLt
  have i1 := a1.isLt
  have i2 := a2.isLt
  have j0 := b0.isLt
  have j1 := b1.isLt
  have j2 := b2.isLt
  have e0 : a0 = b0 := BitVec.eq_of_toNat_eq (by omega)
  have e1 : a1 = b1 := BitVec.eq_of_toNat_eq (by omega)
  have e2 : a2 = b2 := BitVec.eq_of_toNat_eq (by omega)
  have e3 : a3 = b3 := BitVec.eq_of_toNat_eq (by omega)
  rw [e0, e1, e2, e3]
/-- The four words of a number of 256 bits. -/
def nq (n : Nat) : Q := ⟨BitVec.ofNat 64 n, BitVec.ofNat 64 (n / 18446744073709551616), BitVec.ofNat 64 (n / 340282366920938463463374607431768211456), BitVec.ofNat 64 (n / 6277101735386680763835789423207666416102355444464034512896)⟩
theorem nq_num {n : Nat} (h : n < 115792089237316195423570985008687907853269984665640564039457584007913129639936) : (nq n).num = n := by
  unfold nq Q.num
  simp only [BitVec.toNat_ofNat]
  omega
theorem nq_of {q : Q} {n : Nat} (h : q.num = n) : q = nq n := Q.ext_num (by rw [nq_num (by have := num_lt q; omega), h])
theorem fw_ex : ∃ f : Ed.F → Array Value, ∀ x, f x = (nq x.val).cells := ⟨_, fun _ => rfl⟩
/-- A word of the field, as the program holds it. (By choice, so that nothing opens it but fw_def.) -/
noncomputable def fw : Ed.F → Array Value := Classical.choose fw_ex
theorem fw_def (x : Ed.F) : fw x = (nq x.val).cells := Classical.choose_spec fw_ex x
theorem fw_num (x : Ed.F) : (nq x.val).num = x.val := nq_num (Nat.lt_trans x.isLt (by decide))
theorem fw_one (x : Ed.F) : (fw x).all (·.oneCell') = true := by rw [fw_def]; exact (nq x.val).cells_one
theorem fw_size (x : Ed.F) : (fw x).size = 4 := by rw [fw_def]; rfl
theorem add_f (x y : Ed.F) (w : World) :
    Calls Tryz.prog 229 #[.agg (fw x), .agg (fw y)] w fun e w' => e = .returned (.agg (fw (x + y))) ∧ Below w.heap.size w w' := by
  rw [fw_def, fw_def, fw_def]
  refine (add_any (nq x.val) (nq y.val) (by rw [fw_num]; exact x.isLt) (by rw [fw_num]; exact y.isLt) w).mono fun e w' ⟨r, he, hr, hb⟩ => ⟨?_, hb⟩
  rw [fw_num, fw_num] at hr
  rw [he, nq_of hr]; rfl
theorem sub_f (x y : Ed.F) (w : World) :
    Calls Tryz.prog 226 #[.agg (fw x), .agg (fw y)] w fun e w' => e = .returned (.agg (fw (x - y))) ∧ Below w.heap.size w w' := by
  rw [fw_def, fw_def, fw_def]
  refine (sub_any (nq x.val) (nq y.val) (by rw [fw_num]; exact x.isLt) (by rw [fw_num]; exact y.isLt) w).mono fun e w' ⟨r, he, hr, hb⟩ => ⟨?_, hb⟩
  rw [fw_num, fw_num] at hr
  have hy := y.isLt
  have e1 : (x - y).val = (x.val + PP - y.val) % PP := by
    show (PP - y.val + x.val) % PP = _
    have hy' : y.val < PP := hy
    congr 1
    omega
  rw [he, nq_of hr, ← e1]
theorem mul_f (x y : Ed.F) (w : World) :
    Calls Tryz.prog 179 #[.agg (fw x), .agg (fw y)] w fun e w' => e = .returned (.agg (fw (x * y))) ∧ Below w.heap.size w w' := by
  rw [fw_def, fw_def, fw_def]
  refine (mul_any (nq x.val) (nq y.val) w).mono fun e w' ⟨r, he, hr, hb⟩ => ⟨?_, hb⟩
  rw [fw_num, fw_num] at hr
  rw [he, nq_of hr]; rfl
end Fw
end Go.Proofs.YtbojijefenfbgaaGreatDoor
namespace Go.Proofs.YtbojijefenfbgaaGreatDoor
open Go.RowKit
namespace Dc
open Bt
theorem l_store_new {ops : Array Oper} {rest : List Oper} {o : Oper} {a : Act} {w : World} {Q : Exit → Act → World → Prop} (hgd : o.guard = none) (x y : Operand) (ho : o.op = .store 95 x y) (g f : Nat → Int)
    (hx : a.eval x = .pointer (some ⟨w.heap.size, 0, none⟩)) (hy : a.eval y = .agg (num f))
    (h : wpList Tryz.prog ops Q rest (a.put o.dst undef) (w.alloc (.cells (num f) 95))) : wpList Tryz.prog ops Q (o :: rest) a (w.alloc (.cells (num g) 95)) :=
  Own.wpList_store_new hgd 95 x y ho (num g) (num f) 95 hx hy (by rw [num_size]; kernel_rfl) (by rw [num_size, num_size]) (num_one f) h
theorem up_eq (n : Int) (k : Nat) : n / 65536 ^ (k + 1) = n / 65536 ^ k / 65536 := by
  rw [Int.pow_succ, Int.ediv_ediv_of_nonneg (Int.le_of_lt (pow_pos' (by decide) k))]
theorem cmp_eq {n m : Int} {k : Nat} (h : n / 65536 ^ (k + 1) = m / 65536 ^ (k + 1)) (hd : dg n k = dg m k) : n / 65536 ^ k = m / 65536 ^ k := by
  rw [up_eq, up_eq] at h
  unfold dg at hd
  omega
theorem cmp_lt {n m : Int} {k : Nat} (h : n / 65536 ^ (k + 1) = m / 65536 ^ (k + 1)) (hd : dg n k ≠ dg m k) : decide (dg n k < dg m k) = decide (n < m) := by
  rw [up_eq, up_eq] at h
  unfold dg at *
  have hp := pow_pos' (show (0 : Int) < 65536 by decide) k
  generalize (65536 : Int) ^ k = B at *
  by_cases hl : n < m
  · have := Int.ediv_le_ediv hp (Int.le_of_lt hl)
    rw [decide_eq_true hl, decide_eq_true]
    omega
  · have := Int.ediv_le_ediv hp (Int.not_lt.1 hl)
    rw [decide_eq_false hl, decide_eq_false]
    omega
theorem low_all {n : Int} (h0 : 0 ≤ n) (h1 : n < 65536 ^ 16) : n / 65536 ^ 16 = 0 := Int.ediv_eq_zero_of_lt h0 h1
theorem pI_0 : 0 ≤ pI := by decide
theorem pI_1 : pI < 65536 ^ 16 := by decide
set_option maxRecDepth 100000 in
set_option maxHeartbeats 400000 in
theorem below_f (n : Int) (h0 : 0 ≤ n) (h1 : n < 65536 ^ 16) (w : World) : Calls Tryz.prog 92 #[.agg (nm n)] w fun e w' => e = .returned (.bool (decide (n < pI))) ∧ Below w.heap.size w w' := by
  have HN : Hid (n / 65536 ^ 16 = pI / 65536 ^ 16) := by
    show _ = _
    rw [low_all h0 h1, low_all pI_0 pI_1]
  clear h0 h1
  have Hpr : Hid (∀ w, Calls Tryz.prog 97 #[] w fun e w' => e = .returned (.agg (nm pI)) ∧ Below w.heap.size w w') := prime_f
  obtain ⟨P, hP⟩ : ∃ P, P = pI := ⟨_, rfl⟩
  rw [← hP] at HN Hpr ⊢
  clear hP
  go_enter Tryz.func92, Tryz.ntmps92
  go_wp2_with fail
  refine (Hpr.out _).mono ?_
  rintro e w1 ⟨rfl, hb1⟩
  obtain ⟨g, hg⟩ : ∃ g, g = w.heap.size := ⟨_, rfl⟩
  have HA : Hid (w1.heap[g]? = some (.cells (nm n) 95 (0, 0))) := by
    rw [hg]
    exact (hb1.block _ (by simp)).trans (heap_alloc_new _ _)
  have HB1 : Hid (Below g w w1) := by
    rw [hg]
    exact ((Below.refl _ _).alloc (Nat.le_refl _) _).trans (hb1.mono (by simp))
  have HG : Hid (w.heap.size ≤ g) := Nat.le_of_eq hg.symm
  rw [← hg]
  clear hb1 hg
  obtain ⟨gp, hgp⟩ : ∃ x, x = w1.heap.size := ⟨_, rfl⟩
  have hgl : g < gp := by
    rw [hgp]
    exact (Array.getElem?_eq_some_iff.1 HA.out).1
  go_wp2_with (first | refine l_alloc _ rfl rfl ?_ | refine l_store_new rfl _ _ rfl _ (dg P) rfl rfl ?_)
  have HP2 : Hid ((w1.alloc (.cells (num (dg P)) 95)).heap[gp]? = some (.cells (num (dg P)) 95 (0, 0))) := by
    rw [hgp]
    exact heap_alloc_new _ _
  have HA2 : Hid ((w1.alloc (.cells (num (dg P)) 95)).heap[g]? = some (.cells (nm n) 95 (0, 0))) := (heap_alloc_old _ _ (by rw [← hgp]; exact hgl)).trans HA.out
  have HB2 : Hid (Below g w (w1.alloc (.cells (num (dg P)) 95))) := HB1.out.alloc (by omega) _
  rw [← hgp]
  clear HA HB1 hgp
  generalize w1.alloc (.cells (num (dg P)) 95) = w2 at *
  go_loopw [4] (fun i wq => ∃ k : Nat, k ≤ 16 ∧ i = .int .i64 ((k : Int) - 1) ∧ n / 65536 ^ k = P / 65536 ^ k ∧ wq.heap[g]? = some (.cells (nm n) 95 (0, 0)) ∧ wq.heap[gp]? = some (.cells (num (dg P)) 95 (0, 0)) ∧ Below g w wq) (fun i _ => (intOf i + 1).toNat)
  case atStart => exact ⟨16, by omega, rfl, HN.out, HA2.out, HP2.out, HB2.out⟩
  case round =>
    clear HP2 HA2 HB2 HN
    rename World => wa
    obtain ⟨k, hk, rfl, hn, ha, hp, hb⟩ := hrel
    have HA : Hid _ := ha
    have HP : Hid _ := hp
    have HB : Hid _ := hb
    have HN : Hid _ := hn
    clear ha hp hb hn
    by_cases hk0 : k = 0
    · subst hk0
      go_wp2_with fail
      have e : decide (n < P) = false := by
        have := HN.out
        rw [Int.pow_zero, Int.ediv_one, Int.ediv_one] at this
        rw [this]
        simp
      rw [e]
      exact bodyPost_ret (v := .bool false) (by simp [results, Tryz.results92, go_sem]) rfl ⟨rfl, HB.out.mono HG.out⟩
    · obtain ⟨i, rfl⟩ : ∃ i, k = i + 1 := ⟨k - 1, by omega⟩
      have ei : ((i + 1 : Nat) : Int) - 1 = (i : Int) := by omega
      rw [ei]
      have hc1 : wa.cell? ⟨g, i, none⟩ = some (.int .i64 (dg n i)) := num_cell HA.out i (by omega)
      have hc2 : wa.cell? ⟨gp, i, none⟩ = some (.int .i64 (dg P i)) := num_cell HP.out i (by omega)
      have Hd1 : Hid (dg n i = dg P i → n / 65536 ^ i = P / 65536 ^ i) := fun h => cmp_eq HN.out h
      have Hd2 : Hid (dg n i ≠ dg P i → decide (dg n i < dg P i) = decide (n < P)) := fun h => cmp_lt HN.out h
      clear HN
      generalize dg n i = x at *
      generalize dg P i = y at *
      have hi16 : i < 16 := by omega
      go_wp2_with fail
      refine wp_region_quiet_lit (by kernel_rfl) (by kernel_rfl) ?_
      repeat (first | go_big_quiet_step (fail) | quiet_step (fail))
      refine wpQuiet_nil ?_
      intro _ hw'
      obtain ⟨nq, hw''⟩ := hw'
      subst hw''
      have hc1 : (wa.drewN nq).cell? ⟨g, i, none⟩ = some (.int .i64 x) := hc1
      have hc2 : (wa.drewN nq).cell? ⟨gp, i, none⟩ = some (.int .i64 y) := hc2
      have HA2 : Hid ((wa.drewN nq).heap[g]? = some (.cells (nm n) 95 (0, 0))) := HA.out
      have HP2 : Hid ((wa.drewN nq).heap[gp]? = some (.cells (num (dg P)) 95 (0, 0))) := HP.out
      have HB2 : Hid (Below g w (wa.drewN nq)) := HB.out.trans (Fw.below_drewN _ _ _)
      clear HA HP HB
      generalize wa.drewN nq = wb at *
      by_cases hxy : x = y
      · subst hxy
        go_wp2_with fail
        refine ⟨⟨i, by omega, by rfl, Hd1.out rfl, HA2.out, HP2.out, HB2.out⟩, ?_⟩
        show ((i : Int) - 1 + 1).toNat < ((i : Int) + 1).toNat
        omega
      · have hne : (x != y) = true := by simp [hxy]
        go_wp2_with fail
        refine wp_region_quiet_lit (by kernel_rfl) (by kernel_rfl) ?_
        repeat (first | go_big_quiet_step (fail) | quiet_step (fail))
        refine wpQuiet_nil ?_
        intro _ hw'
        obtain ⟨nq2, hw''⟩ := hw'
        subst hw''
        have HB3 : Hid (Below g w (wb.drewN nq2)) := HB2.out.trans (Fw.below_drewN _ _ _)
        go_wp2_with fail
        rw [← Hd2.out hxy]
        exact bodyPost_ret (v := .bool (decide (x < y))) (by simp [results, Tryz.results92, go_sem]) rfl ⟨rfl, HB3.out.mono HG.out⟩
set_option maxRecDepth 100000 in
set_option maxHeartbeats 400000 in
theorem less_f (n P : Int) (h0 : 0 ≤ n) (h1 : n < 65536 ^ 16) (h2 : 0 ≤ P) (h3 : P < 65536 ^ 16) (w : World) : Calls Tryz.prog 39 #[.agg (nm n), .agg (nm P)] w fun e w' => e = .returned (.bool (decide (n < P))) ∧ Below w.heap.size w w' := by
  have HN : Hid (n / 65536 ^ 16 = P / 65536 ^ 16) := by
    show _ = _
    rw [low_all h0 h1, low_all h2 h3]
  clear h0 h1 h2 h3
  go_enter Tryz.func39, Tryz.ntmps39
  go_wp2_with fail
  obtain ⟨g, hg⟩ : ∃ g, g = w.heap.size := ⟨_, rfl⟩
  obtain ⟨gp, hgp⟩ : ∃ x, x = g + 1 := ⟨_, rfl⟩
  have HG : Hid (w.heap.size ≤ g) := Nat.le_of_eq hg.symm
  have HA2 : Hid (((w.alloc (.cells (nm n) 95)).alloc (.cells (nm P) 95)).heap[g]? = some (.cells (nm n) 95 (0, 0))) := by
    rw [hg]
    exact (heap_alloc_old _ _ (by simp)).trans (heap_alloc_new _ _)
  have HP2 : Hid (((w.alloc (.cells (nm n) 95)).alloc (.cells (nm P) 95)).heap[gp]? = some (.cells (num (dg P)) 95 (0, 0))) := by
    have := heap_alloc_new (w.alloc (.cells (nm n) 95)) (.cells (nm P) 95)
    rw [World.size_alloc, ← hg, ← hgp] at this
    exact this
  have HB2 : Hid (Below g w ((w.alloc (.cells (nm n) 95)).alloc (.cells (nm P) 95))) := by
    rw [hg]
    exact ((Below.refl _ _).alloc (Nat.le_refl _) _).alloc (by simp) _
  generalize (w.alloc (.cells (nm n) 95)).alloc (.cells (nm P) 95) = w2 at *
  rw [← hg, ← hgp]
  clear hg hgp
  go_loopw [5] (fun i wq => ∃ k : Nat, k ≤ 16 ∧ i = .int .i64 ((k : Int) - 1) ∧ n / 65536 ^ k = P / 65536 ^ k ∧ wq.heap[g]? = some (.cells (nm n) 95 (0, 0)) ∧ wq.heap[gp]? = some (.cells (num (dg P)) 95 (0, 0)) ∧ Below g w wq) (fun i _ => (intOf i + 1).toNat)
  case atStart => exact ⟨16, by omega, rfl, HN.out, HA2.out, HP2.out, HB2.out⟩
  case round =>
    clear HP2 HA2 HB2 HN
    rename World => wa
    obtain ⟨k, hk, rfl, hn, ha, hp, hb⟩ := hrel
    have HA : Hid _ := ha
    have HP : Hid _ := hp
    have HB : Hid _ := hb
    have HN : Hid _ := hn
    clear ha hp hb hn
    by_cases hk0 : k = 0
    · subst hk0
      go_wp2_with fail
      have e : decide (n < P) = false := by
        have := HN.out
        rw [Int.pow_zero, Int.ediv_one, Int.ediv_one] at this
        rw [this]
        simp
      rw [e]
      exact bodyPost_ret (v := .bool false) (by simp [results, Tryz.results39, go_sem]) rfl ⟨rfl, HB.out.mono HG.out⟩
    · obtain ⟨i, rfl⟩ : ∃ i, k = i + 1 := ⟨k - 1, by omega⟩
      have ei : ((i + 1 : Nat) : Int) - 1 = (i : Int) := by omega
      rw [ei]
      have hc1 : wa.cell? ⟨g, i, none⟩ = some (.int .i64 (dg n i)) := num_cell HA.out i (by omega)
      have hc2 : wa.cell? ⟨gp, i, none⟩ = some (.int .i64 (dg P i)) := num_cell HP.out i (by omega)
      have Hd1 : Hid (dg n i = dg P i → n / 65536 ^ i = P / 65536 ^ i) := fun h => cmp_eq HN.out h
      have Hd2 : Hid (dg n i ≠ dg P i → decide (dg n i < dg P i) = decide (n < P)) := fun h => cmp_lt HN.out h
      clear HN
      generalize dg n i = x at *
      generalize dg P i = y at *
      have hi16 : i < 16 := by omega
      go_wp2_with fail
      refine wp_region_quiet_lit (by kernel_rfl) (by kernel_rfl) ?_
      repeat (first | go_big_quiet_step (fail) | quiet_step (fail))
      refine wpQuiet_nil ?_
      intro _ hw'
      obtain ⟨nq, hw''⟩ := hw'
      subst hw''
      have hc1 : (wa.drewN nq).cell? ⟨g, i, none⟩ = some (.int .i64 x) := hc1
      have hc2 : (wa.drewN nq).cell? ⟨gp, i, none⟩ = some (.int .i64 y) := hc2
      have HA2 : Hid ((wa.drewN nq).heap[g]? = some (.cells (nm n) 95 (0, 0))) := HA.out
      have HP2 : Hid ((wa.drewN nq).heap[gp]? = some (.cells (num (dg P)) 95 (0, 0))) := HP.out
      have HB2 : Hid (Below g w (wa.drewN nq)) := HB.out.trans (Fw.below_drewN _ _ _)
      clear HA HP HB
      generalize wa.drewN nq = wb at *
      by_cases hxy : x = y
      · subst hxy
        go_wp2_with fail
        refine ⟨⟨i, by omega, by rfl, Hd1.out rfl, HA2.out, HP2.out, HB2.out⟩, ?_⟩
        show ((i : Int) - 1 + 1).toNat < ((i : Int) + 1).toNat
        omega
      · have hne : (x != y) = true := by simp [hxy]
        go_wp2_with fail
        refine wp_region_quiet_lit (by kernel_rfl) (by kernel_rfl) ?_
        repeat (first | go_big_quiet_step (fail) | quiet_step (fail))
        refine wpQuiet_nil ?_
        intro _ hw'
        obtain ⟨nq2, hw''⟩ := hw'
        subst hw''
        have HB3 : Hid (Below g w (wb.drewN nq2)) := HB2.out.trans (Fw.below_drewN _ _ _)
        go_wp2_with fail
        rw [← Hd2.out hxy]
        exact bodyPost_ret (v := .bool (decide (x < y))) (by simp [results, Tryz.results39, go_sem]) rfl ⟨rfl, HB3.out.mono HG.out⟩
end Dc
end Go.Proofs.YtbojijefenfbgaaGreatDoor
