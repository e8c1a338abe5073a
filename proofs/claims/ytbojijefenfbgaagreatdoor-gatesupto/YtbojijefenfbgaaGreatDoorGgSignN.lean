/- The base's order; a signature is right, and with another s it is not. Multiples of a point reckoned by the kernel; the base's order. Walks of the package postern: Key, Sign, Right. Walk of the document's rest. A region that draws its order: its first m operations leave the worlds of a class and yield one value each; the next one may make new blocks (a slice written out, a conversion, ..), of its value and the world something is said that lasts; the others stand in a row behind them. -/
import Derived.Test.YtbojijefenfbgaaGreatDoorGgDocL
import Derived.Test.YtbojijefenfbgaaGreatDoorGgWideE
import Derived.Test.YtbojijefenfbgaaGreatDoorGgQRel
namespace Go.Proofs.YtbojijefenfbgaaGreatDoor
open Go.RowKit
namespace Ed
section
variable {b : Pt} {L : Nat}
end
end Ed
namespace Gw
open Fw Bt Ww Sw Cw Ed
theorem key_eq (l : List UInt8) : keyB l = encP (mulP bP (sec l)) := rfl
end Gw
end Go.Proofs.YtbojijefenfbgaaGreatDoor
namespace Go.Proofs.YtbojijefenfbgaaGreatDoor
open Go.RowKit
namespace Ed
def force (n : Nat) (k : Nat → Bool) : Bool := Nat.rec (k 0) (fun m _ => k (m + 1)) n
theorem force_eq (n : Nat) (k : Nat → Bool) : force n k = k n := by cases n <;> rfl
def frc (v : F) (k : F → Bool) : Bool := force v.val fun n => k (Fin.ofNat P n)
theorem frc_eq (v : F) (k : F → Bool) : frc v k = k v := by
 unfold frc
 rw [force_eq]
 congr 1
 exact Fin.ext (Nat.mod_eq_of_lt v.isLt)
def frcE (e : E) (k : E → Bool) : Bool := frc e.x fun x => frc e.y fun y => frc e.z fun z => frc e.t fun t => k ⟨x, y, z, t⟩
theorem frcE_eq (e : E) (k : E → Bool) : frcE e k = k e := by
 unfold frcE
 rw [frc_eq, frc_eq, frc_eq, frc_eq]
def runB (b : E) (n : Nat) : Nat → E → (E → Bool) → Bool
 | 0, acc, k => k acc
 | i + 1, acc, k => frcE (edbl acc) fun a => cond (Nat.beq (n / 2 ^ i % 2) 1) (frcE (eadd a b) fun a => runB b n i a k) (runB b n i a k)
theorem runB_rep {b : E} {p : Pt} (hp : OnP p) (hb : Rep b p) (n : Nat) (k : E → Bool) (i : Nat) : ∀ acc, Rep acc (mulP p (n / 2 ^ i)) → runB b n i acc k = true → ∃ e, Rep e (mulP p n) ∧ k e = true := by
 induction i with
 | zero =>
  intro acc h hr
  rw [Nat.pow_zero, Nat.div_one] at h
  exact ⟨acc, h, hr⟩
 | succ i ih =>
  intro acc h hr
  unfold runB at hr
  rw [frcE_eq] at hr
  have hd := edbl_rep (mulP_on hp _) h
  rw [← mulP_add hp] at hd
  have e2 : n / 2 ^ (i + 1) = n / 2 ^ i / 2 := by rw [Nat.pow_succ, Nat.div_div_eq_div_mul]
  rw [e2] at hd
  cases hc : Nat.beq (n / 2 ^ i % 2) 1 with
  | true =>
   rw [hc, cond_true, frcE_eq] at hr
   have h1 : n / 2 ^ i % 2 = 1 := Nat.eq_of_beq_eq_true hc
   have ha := eadd_rep (mulP_on hp _) hp hd hb
   have e3 : padd (mulP p (n / 2 ^ i / 2 + n / 2 ^ i / 2)) p = mulP p (n / 2 ^ i / 2 + n / 2 ^ i / 2 + 1) := rfl
   rw [e3, show n / 2 ^ i / 2 + n / 2 ^ i / 2 + 1 = n / 2 ^ i by omega] at ha
   exact ih _ ha hr
  | false =>
   rw [hc, cond_false] at hr
   have h1 : n / 2 ^ i % 2 ≠ 1 := Nat.ne_of_beq_eq_false hc
   rw [show n / 2 ^ i / 2 + n / 2 ^ i / 2 = n / 2 ^ i by omega] at hd
   exact ih _ hd hr
def isB (x y : F) (e : E) : Bool := Nat.beq e.x.val (x * e.z).val && Nat.beq e.y.val (y * e.z).val
theorem gen_commu (n : Nat) [NeZero n] (a b : Fin n) : a * b = b * a := by grind
theorem isB_spec {x y : F} {e : E} {q : Pt} (h : isB x y e = true) (hr : Rep e q) : q = (x, y) := by
 unfold isB at h
 rw [Bool.and_eq_true] at h
 have h1 : e.x = x * e.z := Fin.ext (Nat.eq_of_beq_eq_true h.1)
 have h2 : e.y = y * e.z := Fin.ext (Nat.eq_of_beq_eq_true h.2)
 have c1 : e.z * q.1 = e.z * x := by rw [gen_commu P e.z q.1, gen_commu P e.z x, ← hr.x, h1]
 have c2 : e.z * q.2 = e.z * y := by rw [gen_commu P e.z q.2, gen_commu P e.z y, ← hr.y, h2]
 exact Prod.ext (mul_cancel hr.z c1) (mul_cancel hr.z c2)
theorem mul_is {b : E} {p : Pt} (hp : OnP p) (hb : Rep b p) (n i : Nat) (hn : n < 2 ^ i) (x y : F) (h : runB b n i ezero (isB x y) = true) : mulP p n = (x, y) := by
 have h0 : Rep ezero (mulP p (n / 2 ^ i)) := by
  rw [Nat.div_eq_of_lt hn]
  exact ezero_rep
 obtain ⟨e, hr, hk⟩ := runB_rep hp hb n _ i _ h0 h
 exact isB_spec hk hr
end Ed
namespace Gw
open Fw Bt Ww Sw Cw Ed
end Gw
end Go.Proofs.YtbojijefenfbgaaGreatDoor
namespace Go.Proofs.YtbojijefenfbgaaGreatDoor
open Go.RowKit
namespace Gw
open Fw Bt Ww Sw Cw Ed
end Gw
end Go.Proofs.YtbojijefenfbgaaGreatDoor
namespace Go.Proofs.YtbojijefenfbgaaGreatDoor
open Go.RowKit
namespace Dc
open Bt Ed Cw
open Sw (LL)
theorem oI_LL : oI = (LL : Int) := rfl
def dD2 (R : Nat) (j : Nat) : Int := 2 * dg (R : Int) j
def cG (R c : Nat) (k j : Nat) : Int := if j < k then (dD2 R j + cF 65536 (c : Int) (dD2 R) j) % 65536 else dg (R : Int) j
theorem cG_step (R c k j : Nat) : (if j = k then (dD2 R k + cF 65536 (c : Int) (dD2 R) k) % 65536 else cG R c k j) = cG R c (k + 1) j := by
 unfold cG
 by_cases e : j = k
 ·subst e
  rw [if_pos rfl, if_pos (by omega)]
 ·rw [if_neg e]
  by_cases h : j < k
  ·rw [if_pos h, if_pos (by omega)]
  ·rw [if_neg h, if_neg (by omega)]
theorem cF_dbl (R c : Nat) (hc : c ≤ 1) (k : Nat) : 0 ≤ cF 65536 (c : Int) (dD2 R) k ∧ cF 65536 (c : Int) (dD2 R) k ≤ 1 := by
 induction k with
 | zero => exact ⟨Int.natCast_nonneg _, by show (c : Int) ≤ 1; omega⟩
 | succ k ih =>
  have h := dg_bd (R : Int) k
  have hd : 0 ≤ dD2 R k ∧ dD2 R k ≤ 131070 := by
   unfold dD2
   omega
  show 0 ≤ (dD2 R k + cF 65536 (c : Int) (dD2 R) k) / 65536 ∧ (dD2 R k + cF 65536 (c : Int) (dD2 R) k) / 65536 ≤ 1
  generalize cF 65536 (c : Int) (dD2 R) k = x at *
  generalize dD2 R k = y at *
  omega
theorem cG_all (R c : Nat) (hR : R < 65536 ^ 16) (j : Nat) (hj : j < 16) : cG R c 16 j = dg ((2 * R + c : Nat) : Int) j := by
 have e : vi 65536 (dD2 R) 16 = 2 * (R : Int) := by
  have h := vi_mul 65536 2 (dg (R : Int)) 16
  rw [vi_dg ⟨Int.natCast_nonneg _, by have h := Int.ofNat_lt.2 hR; rw [Int.natCast_pow] at h; exact h⟩] at h
  exact h
 unfold cG
 rw [if_pos hj, dig_eq (by decide) (c : Int) (dD2 R) hj, e]
 unfold dg
 rw [show (c : Int) + 2 * (R : Int) = ((2 * R + c : Nat) : Int) by omega]
theorem LL_lt : LL < 65536 ^ 16 := by decide
theorem rest_lt (R c : Nat) (h : 2 * R + c < LL) : (2 * R + c) % LL = 2 * R + c := Nat.mod_eq_of_lt h
theorem rest_ge (R c : Nat) (hR : R < LL) (hc : c ≤ 1) (h : ¬ 2 * R + c < LL) : (2 * R + c) % LL = 2 * R + c - LL := by
 rw [Nat.mod_eq_sub_mod (Nat.not_lt.1 h), Nat.mod_eq_of_lt (by omega)]
theorem rest_step (N i : Nat) : N / 2 ^ i % LL = (2 * (N / 2 ^ (i + 1) % LL) + N / 2 ^ i % 2) % LL := by
 have h := half_eq N i
 generalize N / 2 ^ i % 2 = b at *
 rw [h]
 generalize N / 2 ^ (i + 1) = q
 rw [Nat.add_mod, Nat.mul_mod, Nat.add_mod (2 * (q % LL)), Nat.mul_mod 2 (q % LL), Nat.mod_mod]
theorem rest_bd (R c : Nat) (hR : R < LL) (hc : c ≤ 1) : 2 * R + c < 65536 ^ 16 := by
 have : 2 * LL + 1 < 65536 ^ 16 := by decide
 omega
set_option maxRecDepth 100000 in
set_option maxHeartbeats 1000000 in
theorem rest_d (b cap n N : Nat) (hN : N < 2 ^ (16 * n)) (hn : n ≤ 100) (w : World) (hc : ∀ j, j < n → w.cell? ⟨b, j, none⟩ = some (.int .i64 (dg (N : Int) j))) (hb : b < w.heap.size) :
  Calls Tryz.prog 44 #[.slice (some ⟨b, 0, none⟩) n cap] w fun e w' => e = .returned (.agg (nm ((N % LL : Nat) : Int))) ∧ Below w.heap.size w w' := by
 have Hor : Hid (∀ w, Calls Tryz.prog 40 #[] w fun e w' => e = .returned (.agg (nm oI)) ∧ Below w.heap.size w w') := order_i
 have Hz : Hid (N / 2 ^ (16 * n) = 0) := Nat.div_eq_of_lt hN
 have Hle : Hid (∀ R : Nat, R < 65536 ^ 16 → ∀ w, Calls Tryz.prog 39 #[.agg (nm (R : Int)), .agg (nm oI)] w fun e w' => e = .returned (.bool (decide (R < LL))) ∧ Below w.heap.size w w') := fun R hR w => by
  have h := less_f (R : Int) oI (Int.natCast_nonneg _) (by have h := Int.ofNat_lt.2 hR; rw [Int.natCast_pow] at h; exact h) (by decide) (by decide) w
  rw [oI_LL, show decide ((R : Int) < (LL : Int)) = decide (R < LL) from decide_eq_decide.2 Int.ofNat_lt] at h
  exact h
 have HO : Hid (oI = (LL : Int)) := oI_LL
 have HC : Hid _ := hc
 have HBb : Hid _ := hb
 obtain ⟨P, hP⟩ : ∃ P, P = oI := ⟨_, rfl⟩
 rw [← hP] at Hor Hle HO
 clear hP hc hb hN
 go_enter Tryz.func44, Tryz.ntmps44
 go_wp2_with (refine l_alloc _ rfl rfl ?_)
 generalize hw0 : World.alloc _ _ = w0
 obtain ⟨g, hg⟩ : ∃ g, g = w.heap.size := ⟨_, rfl⟩
 have h0 := al1 hw0
 rw [← hg] at h0 ⊢
 have HR0 : Hid _ := h0.1
 have HB0 : Hid _ := h0.2
 have HG : Hid (w.heap.size ≤ g) := Nat.le_of_eq hg.symm
 have HS0 : Hid (b < g ∧ ∀ j, j < n → w0.cell? ⟨b, j, none⟩ = some (.int .i64 (dg (N : Int) j))) := ⟨by rw [hg]; exact HBb.out, fun j hj => (h0.2.cell (by show b < g; rw [hg]; exact HBb.out)).trans (HC.out j hj)⟩
 clear hg hw0 h0 HC HBb
 refine (Hor.out _).mono ?_
 rintro e w1 ⟨rfl, hb1⟩
 have HR1 : Hid (w1.heap[g]? = _) := (hb1.block _ (Array.getElem?_eq_some_iff.1 HR0.out).1).trans HR0.out
 have HB1 : Hid (Below g w w1) := HB0.out.trans (hb1.mono (Nat.le_of_lt (Array.getElem?_eq_some_iff.1 HR0.out).1))
 have HS1 : Hid (b < g ∧ ∀ j, j < n → w1.cell? ⟨b, j, none⟩ = some (.int .i64 (dg (N : Int) j))) := ⟨HS0.out.1, fun j hj => (hb1.cell (Nat.lt_trans HS0.out.1 (Array.getElem?_eq_some_iff.1 HR0.out).1)).trans (HS0.out.2 j hj)⟩
 clear hb1 HR0 HB0 HS0 Hor
 obtain ⟨gp, hgp⟩ : ∃ x, x = w1.heap.size := ⟨_, rfl⟩
 have hgl : g < gp := by
  rw [hgp]
  exact (Array.getElem?_eq_some_iff.1 HR1.out).1
 generalize hw0 : (w1.alloc (.cells (num (dg P)) 95)).alloc (.cells (num fun _ => 0) 95) = w2
 have h0 := al2 hw0
 rw [← hgp] at h0
 have HR2 : Hid (w2.heap[g]? = _) := (h0.2.2.block _ (by omega)).trans HR1.out
 have HP2 : Hid _ := h0.1
 have HQ2 : Hid (w2.heap[gp + 1]? = some (.cells (nm ((N / 2 ^ (16 * n) % LL : Nat) : Int)) 95 (0, 0))) := by
  rw [Hz.out]
  exact h0.2.1.trans (congrArg (fun r => some (Obj.cells r 95 (0, 0))) (num_congr (by decide)))
 have HB2 : Hid (Below g w w2) := HB1.out.trans (h0.2.2.mono (by omega))
 have HS2 : Hid (b < g ∧ ∀ j, j < n → w2.cell? ⟨b, j, none⟩ = some (.int .i64 (dg (N : Int) j))) := ⟨HS1.out.1, fun j hj => (h0.2.2.cell (by have := HS1.out.1; show b < gp; omega)).trans (HS1.out.2 j hj)⟩
 have Hw0 : Hid _ := hw0
 have Hgp : Hid _ := hgp
 clear hw0 h0 hgp HR1 HB1 HS1
 go_wp2_with (first | refine l_alloc _ rfl rfl ?_ | refine l_store_new rfl _ _ rfl _ (dg P) rfl rfl ?_)
 rw [Hw0.out, ← Hgp.out]
 clear Hw0 Hgp
 go_loopw [5] (fun i wq => ∃ k : Nat, k ≤ 16 * n ∧ i = .int .i64 ((k : Int) - 1) ∧ wq.heap[g]? = some (.cells (num fun _ => 0) 95 (0, 0)) ∧ wq.heap[gp]? = some (.cells (num (dg P)) 95 (0, 0)) ∧ wq.heap[gp + 1]? = some (.cells (nm ((N / 2 ^ k % LL : Nat) : Int)) 95 (0, 0)) ∧ (b < g ∧ ∀ j, j < n → wq.cell? ⟨b, j, none⟩ = some (.int .i64 (dg (N : Int) j))) ∧ Below g w wq) (fun i _ => (intOf i + 1).toNat)
 case atStart => exact ⟨16 * n, by omega, by simp, HR2.out, HP2.out, HQ2.out, HS2.out, HB2.out⟩
 case round =>
  clear HR2 HP2 HQ2 HS2 HB2 Hz
  rename World => wa
  obtain ⟨k, hk, rfl, hr, hp, hq, hs, hb⟩ := hrel
  have HR : Hid _ := hr
  have HP : Hid _ := hp
  have HQ : Hid _ := hq
  have HS : Hid _ := hs
  have HB : Hid _ := hb
  clear hr hp hq hs hb
  by_cases hk0 : k = 0
  ·subst hk0
   have HQ1 : Hid (wa.heap[gp + 1]? = some (.cells (num (dg ((N % LL : Nat) : Int))) 95 (0, 0))) := by
    have := HQ.out
    rw [Nat.pow_zero, Nat.div_one] at this
    exact this
   clear HQ
   go_wp2_with (first | refine l_load rfl _ rfl (gp + 1) _ rfl HQ1.out ?_ | refine l_store rfl _ _ rfl g _ _ rfl rfl HR.out ?_)
   exact Own.ret_row Tryz.results44 rfl g 95 _ (0, 0) _ rfl (setRow_heap _ _ _ _ _ _ HR.out) Tryz.underlying95 rfl (by rw [num_size]; kernel_rfl) ⟨rfl, (HB.out.trans ((Fw.below_setRow _ _ _).mono (by omega))).mono HG.out⟩
  ·obtain ⟨i, rfl⟩ : ∃ i, k = i + 1 := ⟨k - 1, by omega⟩
   have ei : ((i + 1 : Nat) : Int) - 1 = (i : Int) := by omega
   rw [ei]
   obtain ⟨R, hR⟩ : ∃ R, R = N / 2 ^ (i + 1) % LL := ⟨_, rfl⟩
   have HRL : Hid (R < LL) := by
    rw [hR]
    exact Nat.mod_lt _ (by decide)
   have HRs : Hid (N / 2 ^ i % LL = (2 * R + N / 2 ^ i % 2) % LL) := by
    rw [hR]
    exact rest_step N i
   rw [← hR] at HQ
   clear hR ei hk0
   have hc : wa.cell? ⟨b, i / 16, none⟩ = some (.int .i64 (dg (N : Int) (i / 16))) := HS.out.2 (i / 16) (by omega)
   have hdb := dg_bd (N : Int) (i / 16)
   have hbit := bit_eq N i
   obtain ⟨d, hd⟩ : ∃ d, d = dg (N : Int) (i / 16) := ⟨_, rfl⟩
   rw [← hd] at hc hdb hbit
   clear hd
   have htm : (d / 2 ^ (i % 16)).tmod 2 = ((N / 2 ^ i % 2 : Nat) : Int) := by
    rw [Int.tmod_eq_emod_of_nonneg (Int.ediv_nonneg hdb.1 (Int.le_of_lt (Int.pow_pos (by decide)))), hbit]
   clear hbit
   have hbt : N / 2 ^ i % 2 ≤ 1 := by omega
   generalize N / 2 ^ i % 2 = c at *
   go_wp2_with fail
   go_loopw [6, 7] (fun x y wq => ∃ k : Nat, k ≤ 16 ∧ y = .int .i64 (k : Int) ∧ x = .int .i64 (cF 65536 (c : Int) (dD2 R) k) ∧ wq.heap[g]? = some (.cells (num fun _ => 0) 95 (0, 0)) ∧ wq.heap[gp]? = some (.cells (num (dg P)) 95 (0, 0)) ∧ wq.heap[gp + 1]? = some (.cells (num (cG R c k)) 95 (0, 0)) ∧ (b < g ∧ ∀ j, j < n → wq.cell? ⟨b, j, none⟩ = some (.int .i64 (dg (N : Int) j))) ∧ Below g w wq) (fun _ y _ => 16 - (intOf y).toNat)
   case atStart => exact ⟨0, by omega, rfl, rfl, HR.out, HP.out, HQ.out, HS.out, HB.out⟩
   case round =>
    clear HR HP HQ HS HB
    rename World => wa
    obtain ⟨k, hk, rfl, rfl, hr, hp, hq, hs, hb⟩ := hrel
    have HR : Hid _ := hr
    have HP : Hid _ := hp
    have HQ : Hid _ := hq
    have HS : Hid _ := hs
    have HB : Hid _ := hb
    clear hr hp hq hs hb hc htm hdb
    by_cases hk16 : k < 16
    ·have hc1 := num_cell HQ.out k hk16
     have hfz := num_frozen HQ.out k
     rw [cG, if_neg (Nat.lt_irrefl k)] at hc1
     have hbR := dg_bd (R : Int) k
     have hbC := cF_dbl R c hbt k
     have Hs1 : Hid ((2 * dg (R : Int) k + cF 65536 (c : Int) (dD2 R) k) / 65536 = cF 65536 (c : Int) (dD2 R) (k + 1)) := rfl
     have Hs2 : Hid (∀ j, (if j = k then (2 * dg (R : Int) k + cF 65536 (c : Int) (dD2 R) k) % 65536 else cG R c k j) = cG R c (k + 1) j) := cG_step R c k
     generalize dg (R : Int) k = u at *
     generalize cF 65536 (c : Int) (dD2 R) k = v at *
     go_wp2_with fail
     refine ⟨⟨k + 1, by omega, by rw [Int.natCast_add]; rfl, by rw [Hs1.out], ?_, ?_, ?_, ⟨HS.out.1, fun j hj => ?_⟩, ?_⟩, ?_⟩
     ·exact (Below.heap_setCell _ _ _ g (by show g ≠ gp + 1; omega)).trans HR.out
     ·exact (Below.heap_setCell _ _ _ gp (by show gp ≠ gp + 1; omega)).trans HP.out
     ·refine (num_store HQ.out k _).trans ?_
      rw [num_congr]
      intro j _
      exact Hs2.out j
     ·exact ((below_cell (Below.refl g wa) (gp + 1) k (by omega) _).cell HS.out.1).trans (HS.out.2 j hj)
     ·exact below_cell HB.out _ _ (by omega) _
     ·show 16 - ((k : Int) + 1).toNat < 16 - (k : Int).toNat
      omega
    ·obtain rfl : k = 16 := by omega
     have HQ1 : Hid (wa.heap[gp + 1]? = some (.cells (nm ((2 * R + c : Nat) : Int)) 95 (0, 0))) := HQ.out.trans (congrArg (fun r => some (Obj.cells r 95 (0, 0))) (num_congr fun j hj => cG_all R c (Nat.lt_trans HRL.out LL_lt) j hj))
     have Hlt2 : Hid (2 * R + c < 65536 ^ 16) := rest_bd R c HRL.out hbt
     have Hle1 : Hid (∀ w, Calls Tryz.prog 39 #[.agg (nm ((2 * R + c : Nat) : Int)), .agg (nm P)] w fun e w' => e = .returned (.bool (decide (2 * R + c < LL))) ∧ Below w.heap.size w w') := Hle.out (2 * R + c) Hlt2.out
     clear HQ
     generalize cF 65536 (c : Int) (dD2 R) 16 = cx at *
     have Hend1 : Hid (2 * R + c < LL → (2 * R + c) % LL = 2 * R + c) := rest_lt R c
     have Hend2 : Hid (¬ 2 * R + c < LL → (2 * R + c) % LL = 2 * R + c - LL) := rest_ge R c HRL.out hbt
     obtain ⟨U, hU⟩ : ∃ U, U = 2 * R + c := ⟨_, rfl⟩
     rw [← hU] at HQ1 Hlt2 Hle1 HRs Hend1 Hend2
     clear hU hbt
     go_wp2_with (first | refine l_load rfl _ rfl (gp + 1) (dg (U : Int)) rfl HQ1.out ?_ | refine l_load rfl _ rfl gp (dg P) rfl HP.out ?_)
     refine (Hle1.out _).mono ?_
     rintro e w3 ⟨rfl, hb3⟩
     have hgw : gp + 1 < wa.heap.size := (Array.getElem?_eq_some_iff.1 HQ1.out).1
     have HR3 : Hid (w3.heap[g]? = _) := (hb3.block _ (by omega)).trans HR.out
     have HP3 : Hid (w3.heap[gp]? = _) := (hb3.block _ (by omega)).trans HP.out
     have HQ3 : Hid (w3.heap[gp + 1]? = _) := (hb3.block _ hgw).trans HQ1.out
     have HS3 : Hid (b < g ∧ ∀ j, j < n → w3.cell? ⟨b, j, none⟩ = some (.int .i64 (dg (N : Int) j))) := ⟨HS.out.1, fun j hj => (hb3.cell (by have := HS.out.1; show b < wa.heap.size; omega)).trans (HS.out.2 j hj)⟩
     have HB3 : Hid (Below g w w3) := HB.out.trans (hb3.mono (by omega))
     clear hb3 hgw HR HP HQ1 HS HB Hle1
     by_cases hlt : U < LL
     ·have hdl := decide_eq_true hlt
      have HE : Hid (U = N / 2 ^ i % LL) := by
       show _ = _
       rw [HRs.out, Hend1.out hlt]
      clear hlt
      go_wp2_with fail
      refine ⟨⟨i, by omega, rfl, HR3.out, HP3.out, by rw [← HE.out]; exact HQ3.out, HS3.out, HB3.out⟩, ?_⟩
      show ((i : Int) - 1 + 1).toNat < ((i : Int) + 1).toNat
      omega
     ·have hdl := decide_eq_false hlt
      have HE : Hid ((U : Int) - P = ((N / 2 ^ i % LL : Nat) : Int)) := by
       show _ = _
       rw [HRs.out, Hend2.out hlt, HO.out, Int.natCast_sub (Nat.not_lt.1 hlt)]
      have HU : Hid (0 ≤ (U : Int) ∧ (U : Int) < 65536 ^ 16) := ⟨Int.natCast_nonneg _, by have h := Int.ofNat_lt.2 Hlt2.out; rw [Int.natCast_pow] at h; exact h⟩
      have HPb : Hid (0 ≤ P ∧ P < 65536 ^ 16) := by rw [HO.out]; exact ⟨by decide, by decide⟩
      clear hlt
      generalize (U : Int) = V at *
      go_wp2_with fail
      go_loopw [6, 10] (fun x y wq => ∃ k : Nat, k ≤ 16 ∧ y = .int .i64 (k : Int) ∧ x = .int .i64 (cF 65536 0 (dd V P) k) ∧ wq.heap[g]? = some (.cells (num fun _ => 0) 95 (0, 0)) ∧ wq.heap[gp]? = some (.cells (num (dg P)) 95 (0, 0)) ∧ wq.heap[gp + 1]? = some (.cells (num (cE (dd V P) (dg V) k)) 95 (0, 0)) ∧ (b < g ∧ ∀ j, j < n → wq.cell? ⟨b, j, none⟩ = some (.int .i64 (dg (N : Int) j))) ∧ Below g w wq) (fun _ y _ => 16 - (intOf y).toNat)
      case atStart => exact ⟨0, by omega, rfl, rfl, HR3.out, HP3.out, HQ3.out, HS3.out, HB3.out⟩
      case round =>
       clear HR3 HP3 HQ3 HS3 HB3
       rename World => wa
       obtain ⟨k, hk, rfl, rfl, hr, hp, hq, hs, hb⟩ := hrel
       have HR : Hid _ := hr
       have HP : Hid _ := hp
       have HQ : Hid _ := hq
       have HS : Hid _ := hs
       have HB : Hid _ := hb
       clear hr hp hq hs hb
       by_cases hk16 : k < 16
       ·have hc1 := num_cell HQ.out k hk16
        have hfz := num_frozen HQ.out k
        have hc2 := num_cell HP.out k hk16
        rw [cE, if_neg (Nat.lt_irrefl k)] at hc1
        have hbU := dg_bd V k
        have hbP := dg_bd P k
        have hbC := cF_bound (c0 := 0) (dd_bd V P) (by omega) k (by omega)
        have Hs : Hid (∀ j, (if j = k then dg V k - dg P k + cF 65536 0 (dd V P) k - (dg V k - dg P k + cF 65536 0 (dd V P) k) / 65536 * 65536 else cE (dd V P) (dg V) k j) = cE (dd V P) (dg V) (k + 1) j) := cE_step (dd V P) (dg V) k
        have Hs2 : Hid ((dg V k - dg P k + cF 65536 0 (dd V P) k) / 65536 = cF 65536 0 (dd V P) (k + 1)) := rfl
        generalize dg V k = u at *
        generalize dg P k = v at *
        generalize cF 65536 0 (dd V P) k = y at *
        go_wp2_with fail
        refine wp_region_quiet_lit (by kernel_rfl) (by kernel_rfl) ?_
        repeat (first | go_big_quiet_step (fail) | quiet_step (fail))
        refine wpQuiet_nil ?_
        intro _ hw'
        obtain ⟨nq, hw''⟩ := hw'
        subst hw''
        have hfz : (wa.drewN nq).frozen? ⟨gp + 1, k, none⟩ = false := hfz
        have hc1 : (wa.drewN nq).cell? ⟨gp + 1, k, none⟩ = some (.int .i64 u) := hc1
        have HR : Hid ((wa.drewN nq).heap[g]? = _) := HR.out
        have HP : Hid ((wa.drewN nq).heap[gp]? = _) := HP.out
        have HQ : Hid ((wa.drewN nq).heap[gp + 1]? = _) := HQ.out
        have HS : Hid (b < g ∧ ∀ j, j < n → (wa.drewN nq).cell? ⟨b, j, none⟩ = some (.int .i64 (dg (N : Int) j))) := HS.out
        have HB : Hid (Below g w (wa.drewN nq)) := HB.out.trans (Fw.below_drewN _ _ _)
        clear hc2
        generalize wa.drewN nq = wb at *
        go_wp2_with fail
        refine ⟨⟨k + 1, by omega, by rw [Int.natCast_add]; rfl, by rw [Hs2.out], ?_, ?_, ?_, ⟨HS.out.1, fun j hj => ?_⟩, ?_⟩, ?_⟩
        ·exact (Below.heap_setCell _ _ _ g (by show g ≠ gp + 1; omega)).trans HR.out
        ·exact (Below.heap_setCell _ _ _ gp (by show gp ≠ gp + 1; omega)).trans HP.out
        ·refine (num_store HQ.out k _).trans ?_
         rw [num_congr]
         intro j _
         exact Hs.out j
        ·exact ((below_cell (Below.refl g wb) (gp + 1) k (by omega) _).cell HS.out.1).trans (HS.out.2 j hj)
        ·exact below_cell HB.out _ _ (by omega) _
        ·show 16 - ((k : Int) + 1).toNat < 16 - (k : Int).toNat
         omega
       ·obtain rfl : k = 16 := by omega
        have HQ5 : Hid (wa.heap[gp + 1]? = some (.cells (nm ((N / 2 ^ i % LL : Nat) : Int)) 95 (0, 0))) := by
         rw [← HE.out]
         exact HQ.out.trans (congrArg (fun r => some (Obj.cells r 95 (0, 0))) (num_congr (cE_all V P HPb.out HU.out)))
        clear HQ
        generalize cF 65536 0 (dd V P) 16 = cy at *
        go_wp2_with fail
        refine ⟨⟨i, by omega, rfl, HR.out, HP.out, HQ5.out, HS.out, HB.out⟩, ?_⟩
        show ((i : Int) - 1 + 1).toNat < ((i : Int) + 1).toNat
        omega
end Dc
end Go.Proofs.YtbojijefenfbgaaGreatDoor
namespace Go.Proofs.YtbojijefenfbgaaGreatDoor
open Go Go.RowKit
namespace Qt
theorem fullA_congr (U V : Nat → Value) (l : List Oper) : ∀ k a, (∀ j, k ≤ j → j < k + l.length → U j = V j) → fullA U l k a = fullA V l k a := by
 induction l with
 | nil => intros; rfl
 | cons o l ih =>
  intro k a h
  unfold fullA
  rw [h k (Nat.le_refl _) (by simp)]
  exact ih _ _ fun j h1 h2 => h j (by omega) (by simp at h2 ⊢; omega)
theorem fullA_append (U : Nat → Value) (l1 l2 : List Oper) : ∀ k a, fullA U (l1 ++ l2) k a = fullA U l2 (k + l1.length) (fullA U l1 k a) := by
 induction l1 with
 | nil => intro k a; simp [fullA]
 | cons o l ih =>
  intro k a
  simp only [List.cons_append, fullA, ih, List.length_cons]
  rw [show k + 1 + l.length = k + (l.length + 1) by omega]
theorem put_size (b : Act) (d : Option Tmp) (v : Value) : (b.put d v).tmps.size = b.tmps.size := by cases d <;> simp [Act.put]
theorem full_eval_congr (U V : Nat → Value) (x : Operand) (l : List Oper) : ∀ k (a a' : Act), a.tmps.size = a'.tmps.size → a.eval x = a'.eval x → (∀ j o, l[j]? = some o → ∀ d, o.dst = some d → x = .tmp d → U (k + j) = V (k + j)) → (fullA U l k a).eval x = (fullA V l k a').eval x := by
 induction l with
 | nil => intro k a a' _ h _; exact h
 | cons o l ih =>
  intro k a a' hs he h
  unfold fullA
  refine ih _ _ _ (by rw [put_size, put_size]; exact hs) ?_ fun j o' hj d hd hx => by
   have := h (j + 1) o' (by simpa using hj) d hd hx
   rwa [show k + (j + 1) = k + 1 + j by omega] at this
  cases hd : o.dst with
  | none => exact he
  | some d =>
   cases x with
   | tmp t =>
    by_cases e : d = t
    ·subst e
     have hv := h 0 o rfl d hd rfl
     rw [Nat.add_zero] at hv
     simp only [Act.eval, Act.put, Array.getD_eq_getD_getElem?, Array.getElem?_setIfInBounds, hs, hv] at he ⊢
     split
     ·rfl
     ·exact he
    ·rw [Act.eval_put (fun d' hd' hx => e (by cases hd'; cases hx; rfl)), Act.eval_put (fun d' hd' hx => e (by cases hd'; cases hx; rfl))]
     exact he
   | _ => exact he
theorem full_eval_out (U : Nat → Value) (x : Operand) (l : List Oper) : ∀ k (a : Act), (∀ o ∈ l, ∀ d, o.dst = some d → x ≠ .tmp d) → (fullA U l k a).eval x = a.eval x := by
 induction l with
 | nil => intros; rfl
 | cons o l ih =>
  intro k a h
  unfold fullA
  rw [ih _ _ fun o' ho' => h o' (List.mem_cons_of_mem _ ho'), Act.eval_put (fun d hd hx => h o (List.mem_cons_self ..) d hd hx)]
theorem lex_vals {P : Program} {W : World} {K : Act → Prop} (l : List Oper) : ∀ (k : Nat) (a : Act), Lex P W K l a → ∃ V : Nat → Value, (∀ i o, l[i]? = some o → Yb P W o (V (k + i)) (fullA V (l.take i) k a)) ∧ K (fullA V l k a) := by
 induction l with
 | nil => intro k a h; exact ⟨fun _ => undef, fun i o h => by simp at h, h⟩
 | cons o l ih =>
  intro k a ⟨v, hy, hl⟩
  obtain ⟨V', h1, h2⟩ := ih (k + 1) _ hl
  have hc : ∀ (L : List Oper) b, fullA (fun j => if j = k then v else V' j) L (k + 1) b = fullA V' L (k + 1) b := fun L b => fullA_congr _ _ _ _ _ fun j hj _ => if_neg (by omega)
  refine ⟨fun j => if j = k then v else V' j, fun i o' hi => ?_, ?_⟩
  ·rcases i with _ | i
   ·have e : o' = o := by simpa using hi.symm
    subst e
    simp only [List.take_zero, fullA, Nat.add_zero, if_pos]
    exact hy
   ·simp only [List.take_succ_cons, fullA, if_pos, hc]
    have := h1 i o' (by simpa using hi)
    rw [if_neg (by omega), show k + (i + 1) = k + 1 + i by omega]
    exact this
  ·simp only [fullA, if_pos, hc]
   exact h2
theorem yb_upon {P : Program} {W w : World} {o : Oper} {v : Value} {a : Act} (h : Yb P W o v a) (hw : Below W.heap.size W w) : UponR P w (fun u _ => u = v) ((execOp a.eval o).run P w) := by
 have h1 := h.2 w hw
 generalize (execOp a.eval o).run P w = r at h1
 cases r with
 | halt x w' => cases h1
 | ok x w' =>
  cases x with
  | value u =>
   obtain ⟨e1, e2⟩ := h1
   subst e1 e2
   exact ⟨rfl, Below.refl _ _⟩
  | enter f args =>
   obtain ⟨e1, hc⟩ := h1
   subst e1
   exact Calls.mono hc fun e w'' ⟨he, hb⟩ => ⟨v, he, rfl, hb⟩
  | _ => cases h1
theorem wp_last {P : Program} {id : Nat} {Q : Exit → Act → World → Prop} {a : Act} {w : World} {l : List Oper} (m : Nat) (R : Value → World → Prop) (hm : P.follows .mixedOrders = true) (hB : relB l.toArray (m + 1) = true) (hR : ∀ u w w', R u w → Below w.heap.size w w' → R u w') (om : Oper) (hom : l[m]? = some om)
  (h : Lex P w (fun a' => (∀ w', Below w.heap.size w w' → UponR P w' R ((execOp a'.eval om).run P w')) ∧ ∀ u w', Below w.heap.size w w' → R u w' → wpList P l.toArray Q (l.drop (m + 1)) (a'.put om.dst u) w') (l.take m) a) : (Code.region id l.toArray true).wp P Q a w := by
 obtain ⟨V, hV, hK1, hK2⟩ := lex_vals (l.take m) 0 a h
 have hB' := hB
 simp only [relB, Bool.and_eq_true, decide_eq_true_eq] at hB'
 obtain ⟨⟨⟨⟨⟨⟨hsel, hn⟩, hgd⟩, hs⟩, hc⟩, hdep⟩, hseq⟩ := hB'
 have hml : m < l.length := (List.getElem?_eq_some_iff.1 hom).1
 have hinfo : ∀ i, i < m + 1 → ∀ oi, l[i]? = some oi → (∀ e ∈ oi.after, e.on < i) ∧ ∀ j oj, j < m + 1 → l[j]? = some oj → ∀ d, oj.dst = some d → Region.waitsFor .any l.toArray i j = true ∨ d ∉ oi.looksAt l.toArray := by
  intro i hi oi hoi
  have h1 := List.all_eq_true.1 hdep i (List.mem_range.2 hi)
  have hoi' : l.toArray[i]? = some oi := by simpa using hoi
  rw [hoi'] at h1
  simp only [Bool.and_eq_true] at h1
  refine ⟨fun e he => by simpa using Array.all_eq_true_iff_forall_mem.1 h1.1 e he, fun j oj hj hoj d hd => ?_⟩
  have h2 := List.all_eq_true.1 h1.2 j (List.mem_range.2 hj)
  have hoj' : l.toArray[j]? = some oj := by simpa using hoj
  rw [hoj'] at h2
  simp only [hd, Bool.and_eq_true, Bool.or_eq_true, Bool.not_eq_true'] at h2
  refine h2.1.imp (fun h => h) fun h hm => ?_
  rw [List.contains_iff_mem.2 hm] at h
  cases h
 have hback : ∀ i, i < m + 1 → ∀ oi, l[i]? = some oi → ∀ j, Region.waitsFor .any l.toArray i j = true → j < i := by
  intro i hi oi hoi j hj
  obtain ⟨oj, hoj, e, he, _, hon⟩ := Region.waitsFor_spec hj
  have hoi' : l.toArray[i]? = some oi := by simpa using hoi
  obtain rfl : oj = oi := Option.some.inj (hoj.symm.trans hoi')
  rw [← hon]
  exact (hinfo i hi oj hoi).1 e he
 have hframe : ∀ U i oi, i < m + 1 → l[i]? = some oi → (∀ j, j < m + 1 → Region.waitsFor .any l.toArray i j = true → U j = V j) → execOp (fullA U (l.take (m + 1)) 0 a).eval oi = execOp (fullA V (l.take i) 0 a).eval oi := by
  intro U i oi hi hoi hU
  refine execOp_congr oi (fun cs b => Region.noSelect_spec hsel i oi cs b (by simpa using hoi)) fun x hx => ?_
  have hlook : ∀ j oj, j < m + 1 → l[j]? = some oj → ∀ d, oj.dst = some d → x = .tmp d → Region.waitsFor .any l.toArray i j = true := by
   intro j oj hj hoj d hd hxd
   rcases (hinfo i hi oi hoi).2 j oj hj hoj d hd with h | h
   ·exact h
   ·exact absurd (by
     subst hxd
     exact List.mem_append_left _ (List.mem_filterMap.2 ⟨.tmp d, by simpa using hx, rfl⟩)) h
  have hsplit : l.take (m + 1) = l.take i ++ (l.take (m + 1)).drop i := by
   have h1 := (List.take_append_drop i (l.take (m + 1))).symm
   rw [List.take_take, Nat.min_eq_left (by omega)] at h1
   exact h1
  rw [hsplit, fullA_append, full_eval_out _ _ _ _ _ (fun o ho d hd hxd => by
   obtain ⟨j, hj⟩ := List.mem_iff_getElem?.1 ho
   rw [List.getElem?_drop] at hj
   have hjn : i + j < m + 1 := by
    have := (List.getElem?_eq_some_iff.1 hj).1
    simp at this
    omega
   rw [List.getElem?_take_of_lt hjn] at hj
   have hw := hlook (i + j) o hjn hj d hd hxd
   have := hback i hi oi hoi _ hw
   omega)]
  refine full_eval_congr U V x (l.take i) 0 a a rfl rfl fun j o hj d hd hxd => ?_
  have hji : j < i := by
   have := (List.getElem?_eq_some_iff.1 hj).1
   simp at this
   omega
  rw [List.getElem?_take_of_lt hji] at hj
  rw [Nat.zero_add]
  exact hU j (by omega) (hlook j o (by omega) hj d hd hxd)
 refine wp_rel (m + 1) (fun j u w' => if j = m then R u w' else u = V j) hm hB (fun j u w1 w2 hu hb => ?_) (fun i o hi ho U w' hw' hU => ?_) (fun U w' hw' hU => ?_)
 ·by_cases e : j = m
  ·rw [if_pos e] at hu ⊢; exact hR _ _ _ hu hb
  ·rw [if_neg e] at hu ⊢; exact hu
 ·have hU' : ∀ j, j < m + 1 → Region.waitsFor .any l.toArray i j = true → U j = V j := fun j hj hwt => by
   have := hU j hj hwt
   have hji := hback i hi o ho j hwt
   rw [if_neg (by omega)] at this
   exact this
  rw [hframe U i o hi ho hU']
  by_cases e : i = m
  ·subst e
   obtain rfl : om = o := Option.some.inj (hom.symm.trans ho)
   simp only [if_pos]
   exact hK1 w' hw'
  ·have him : i < m := by omega
   have hy := hV i o (by rw [List.getElem?_take_of_lt him]; exact ho)
   rw [Nat.zero_add, List.take_take, Nat.min_eq_left (by omega)] at hy
   simp only [if_neg e]
   exact yb_upon hy hw'
 ·have hspl : l.take (m + 1) = l.take m ++ [om] := by
   rw [List.take_add_one, hom]; rfl
  have hlen : (l.take m).length = m := by simp; omega
  rw [hspl, fullA_append, fullA_congr U V (l.take m) 0 a (fun j _ hj => by
   have := hU j (by omega)
   rw [if_neg (by omega)] at this
   exact this)]
  simp only [fullA, hlen, Nat.zero_add]
  have hm' := hU m (by omega)
  rw [if_pos rfl] at hm'
  exact hK2 _ w' hw' hm'
end Qt
end Go.Proofs.YtbojijefenfbgaaGreatDoor
