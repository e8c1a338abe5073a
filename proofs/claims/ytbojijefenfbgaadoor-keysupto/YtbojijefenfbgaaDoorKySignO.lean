/- Multiples of a point reckoned by the kernel; the base's order. -/
/- Walks of the package postern: Key, Sign, Right. -/
/- Walks of the package posternkeep: seed, pick. -/
/- The known answers, reckoned by the kernel. -/
/- Walk of posternlaw's Keys. -/
import Derived.Test.YtbojijefenfbgaaDoorKyDocS
namespace Go.Proofs.YtbojijefenfbgaaDoor
open Go.RowKit
namespace Ed
/-- k of n, with n reckoned first. -/
def force (n : Nat) (k : Nat → Bool) : Bool := Nat.rec (k 0) (fun m _ => k (m + 1)) n
theorem force_eq (n : Nat) (k : Nat → Bool) : force n k = k n := by cases n <;> rfl
def frc (v : F) (k : F → Bool) : Bool := force v.val fun n => k (Fin.ofNat P n)
theorem frc_eq (v : F) (k : F → Bool) : frc v k = k v := by
  unfold frc
  rw [force_eq]
  congr 1
  exact Fin.ext (Nat.mod_eq_of_lt v.isLt)
def frcE (e : E) (k : E → Bool) : Bool := frc e.x fun x => frc e.y fun y => frc e.z fun z => frc e.t fun t => k ⟨x, y, z, t⟩
theorem frcE_eq (e : E) (k : E → Bool) : frcE e k = k e := by
  unfold frcE
  rw [frc_eq, frc_eq, frc_eq, frc_eq]
/-- The bits of n from the i-th down, behind acc. -/
def runB (b : E) (n : Nat) : Nat → E → (E → Bool) → Bool
  | 0, acc, k => k acc
  | i + 1, acc, k => frcE (edbl acc) fun a => cond (Nat.beq (n / 2 ^ i % 2) 1) (frcE (eadd a b) fun a => runB b n i a k) (runB b n i a k)
theorem runB_rep {b : E} {p : Pt} (hp : OnP p) (hb : Rep b p) (n : Nat) (k : E → Bool) (i : Nat) : ∀ acc, Rep acc (mulP p (n / 2 ^ i)) → runB b n i acc k = true → ∃ e, Rep e (mulP p n) ∧ k e = true := by
  induction i with
  | zero =>
    intro acc h hr
    rw [Nat.pow_zero, Nat.div_one] at h
    exact ⟨acc, h, hr⟩
  | succ i ih =>
    intro acc h hr
    unfold runB at hr
    rw [frcE_eq] at hr
    have hd := edbl_rep (mulP_on hp _) h
    rw [← mulP_add hp] at hd
    have e2 : n / 2 ^ (i + 1) = n / 2 ^ i / 2 := by rw [Nat.pow_succ, Nat.div_div_eq_div_mul]
    rw [e2] at hd
    cases hc : Nat.beq (n / 2 ^ i % 2) 1 with
    | true =>
      rw [hc, cond_true, frcE_eq] at hr
      have h1 : n / 2 ^ i % 2 = 1 := Nat.eq_of_beq_eq_true hc
      have ha := eadd_rep (mulP_on hp _) hp hd hb
      have e3 : padd (mulP p (n / 2 ^ i / 2 + n / 2 ^ i / 2)) p = mulP p (n / 2 ^ i / 2 + n / 2 ^ i / 2 + 1) := rfl
      rw [e3, show n / 2 ^ i / 2 + n / 2 ^ i / 2 + 1 = n / 2 ^ i by omega] at ha
      exact ih _ ha hr
    | false =>
      rw [hc, cond_false] at hr
      have h1 : n / 2 ^ i % 2 ≠ 1 := Nat.ne_of_beq_eq_false hc
      rw [show n / 2 ^ i / 2 + n / 2 ^ i / 2 = n / 2 ^ i by omega] at hd
      exact ih _ hd hr
/-- n times p is the point (x, y), as the kernel reckons. -/
def isB (x y : F) (e : E) : Bool := Nat.beq e.x.val (x * e.z).val && Nat.beq e.y.val (y * e.z).val
theorem gen_commu (n : Nat) [NeZero n] (a b : Fin n) : a * b = b * a := by grind
theorem isB_spec {x y : F} {e : E} {q : Pt} (h : isB x y e = true) (hr : Rep e q) : q = (x, y) := by
  unfold isB at h
  rw [Bool.and_eq_true] at h
  have h1 : e.x = x * e.z := Fin.ext (Nat.eq_of_beq_eq_true h.1)
  have h2 : e.y = y * e.z := Fin.ext (Nat.eq_of_beq_eq_true h.2)
  have c1 : e.z * q.1 = e.z * x := by rw [gen_commu P e.z q.1, gen_commu P e.z x, ← hr.x, h1]
  have c2 : e.z * q.2 = e.z * y := by rw [gen_commu P e.z q.2, gen_commu P e.z y, ← hr.y, h2]
  exact Prod.ext (mul_cancel hr.z c1) (mul_cancel hr.z c2)
theorem mul_is {b : E} {p : Pt} (hp : OnP p) (hb : Rep b p) (n i : Nat) (hn : n < 2 ^ i) (x y : F) (h : runB b n i ezero (isB x y) = true) : mulP p n = (x, y) := by
  have h0 : Rep ezero (mulP p (n / 2 ^ i)) := by
    rw [Nat.div_eq_of_lt hn]
    exact ezero_rep
  obtain ⟨e, hr, hk⟩ := runB_rep hp hb n _ i _ h0 h
  exact isB_spec hk hr
end Ed
namespace Gw
open Fw Bt Ww Sw Cw Ed
theorem base_order : mulP bP LL = zero := mul_is bP_on (aff_rep bX bY) LL 253 (by decide) 0 1 (by kernel_rfl)
end Gw
end Go.Proofs.YtbojijefenfbgaaDoor
namespace Go.Proofs.YtbojijefenfbgaaDoor
open Go.RowKit
namespace Gw
open Fw Bt Ww Sw Cw Ed
set_option maxHeartbeats 400000 in
theorem pkey_f (l : List UInt8) (hl : l.length = 32) (w : World) (ht : Hs.TabAt w) : Calls Tryd.prog 8 #[.string ⟨l.toArray⟩] w fun e w' => e = .returned (.tuple #[.string ⟨(keyB l).toArray⟩, .int .i64 0]) ∧ Below w.heap.size w w' := by
  have Hk : Hid (∀ w, Hs.TabAt w → Calls Tryd.prog 26 #[.string ⟨l.toArray⟩] w fun e w' => e = .returned (.string ⟨(keyB l).toArray⟩) ∧ Below w.heap.size w w') := fun w ht => key_f l (by omega) w ht
  obtain ⟨kb, hkb⟩ : ∃ k, k = keyB l := ⟨_, rfl⟩
  rw [← hkb] at Hk ⊢
  clear hkb
  have Ht : Hid (Hs.TabAt w) := ht
  have hli : (l.length : Int) = 32 := by omega
  clear ht
  go_enter Tryd.func8, Tryd.ntmps8
  go_wp2_with fail
  refine (Hk.out w Ht.out).mono ?_
  rintro e w1 ⟨rfl, hb1⟩
  have HB : Hid (Below w.heap.size w w1) := hb1
  clear hb1
  go_wp2_with fail
  exact bodyPost_ret (v := .tuple #[.string ⟨kb.toArray⟩, .int .i64 0]) (by simp [results, Tryd.results8, go_sem]) rfl ⟨rfl, HB.out⟩
set_option maxHeartbeats 400000 in
theorem psign_f (l t : List UInt8) (hl : l.length = 32) (htl : t.length ≤ 900000000) (w : World) (ht : Hs.TabAt w) : Calls Tryd.prog 10 #[.string ⟨l.toArray⟩, .string ⟨t.toArray⟩] w fun e w' => e = .returned (.tuple #[.string ⟨(sigB l t).toArray⟩, .int .i64 0]) ∧ Below w.heap.size w w' := by
  have Hk : Hid (∀ w, Hs.TabAt w → Calls Tryd.prog 31 #[.string ⟨l.toArray⟩, .string ⟨t.toArray⟩] w fun e w' => e = .returned (.string ⟨(sigB l t).toArray⟩) ∧ Below w.heap.size w w') := fun w ht => sign_f l t (by omega) htl w ht
  obtain ⟨kb, hkb⟩ : ∃ k, k = sigB l t := ⟨_, rfl⟩
  rw [← hkb] at Hk ⊢
  clear hkb
  have Ht : Hid (Hs.TabAt w) := ht
  have hli : (l.length : Int) = 32 := by omega
  clear ht
  go_enter Tryd.func10, Tryd.ntmps10
  go_wp2_with fail
  refine (Hk.out w Ht.out).mono ?_
  rintro e w1 ⟨rfl, hb1⟩
  have HB : Hid (Below w.heap.size w w1) := hb1
  clear hb1
  go_wp2_with fail
  exact bodyPost_ret (v := .tuple #[.string ⟨kb.toArray⟩, .int .i64 0]) (by simp [results, Tryd.results10, go_sem]) rfl ⟨rfl, HB.out⟩
set_option maxHeartbeats 400000 in
theorem pright_f (k t g : List UInt8) (htl : t.length ≤ 900000000) (w : World) (ht : Hs.TabAt w) : Calls Tryd.prog 17 #[.string ⟨k.toArray⟩, .string ⟨t.toArray⟩, .string ⟨g.toArray⟩] w fun e w' => e = .returned (.bool (rightE k t g)) ∧ Below w.heap.size w w' := by
  have Hk : Hid (∀ w, Hs.TabAt w → Calls Tryd.prog 36 #[.string ⟨k.toArray⟩, .string ⟨t.toArray⟩, .string ⟨g.toArray⟩] w fun e w' => e = .returned (.bool (rightE k t g)) ∧ Below w.heap.size w w') := fun w ht => right_f k t g htl w ht
  obtain ⟨kb, hkb⟩ : ∃ b, b = rightE k t g := ⟨_, rfl⟩
  rw [← hkb] at Hk ⊢
  clear hkb
  have Ht : Hid (Hs.TabAt w) := ht
  clear ht
  go_enter Tryd.func17, Tryd.ntmps17
  go_wp2_with fail
  refine (Hk.out w Ht.out).mono ?_
  rintro e w1 ⟨rfl, hb1⟩
  have HB : Hid (Below w.heap.size w w1) := hb1
  clear hb1
  go_wp2_with fail
  exact bodyPost_ret (v := .bool kb) (by simp [results, Tryd.results17, go_sem]) rfl ⟨rfl, HB.out⟩
end Gw
end Go.Proofs.YtbojijefenfbgaaDoor
namespace Go.Proofs.YtbojijefenfbgaaDoor
open Go.RowKit
namespace Gw
open Fw Bt Ww Sw Cw Ed
def seedL (s : List UInt8) : List UInt8 := (s ++ List.replicate 32 0).take 32
theorem seedL_len (s : List UInt8) : (seedL s).length = 32 := by unfold seedL; simp
theorem seedL_get (s : List UInt8) (j : Nat) (hj : j < (seedL s).length) : (seedL s)[j] = s.getD j 0 := by
  have h32 : j < 32 := by rw [seedL_len] at hj; exact hj
  have h : (seedL s)[j]? = some (s.getD j 0) := by
    unfold seedL
    rw [List.getElem?_take_of_lt h32, List.getElem?_append]
    by_cases hs : j < s.length
    · rw [if_pos hs, List.getElem?_eq_getElem hs]; simp [hs]
    · rw [if_neg hs, List.getElem?_replicate, if_pos (by omega), List.getD_eq_getElem?_getD, List.getElem?_eq_none (by omega)]; rfl
  rw [List.getElem?_eq_getElem hj] at h
  exact Option.some.inj h
set_option maxHeartbeats 400000 in
theorem seed_f (s : List UInt8) (w : World) : Calls Tryd.prog 16 #[.string ⟨s.toArray⟩] w fun e w' => e = .returned (.string ⟨(seedL s).toArray⟩) ∧ Below w.heap.size w w' := by
  have hcp := Hs.run_copy_min (w.alloc (.cells (Own.zeros 32 (.int .u8 0)) 5)) w.heap.size 0 32 32 32 ⟨s.toArray⟩ (fun _ => .int .u8 0) 5 3 (heap_alloc_new _ _) (by omega)
  have hmn : min (⟨s.toArray⟩ : ByteArray).size 32 = min s.length 32 := rfl
  rw [hmn] at hcp
  obtain ⟨w2, hw2⟩ : ∃ w2, w2 = (w.alloc (.cells (Own.zeros 32 (.int .u8 0)) 5)).setRow w.heap.size (Own.mkRow 32 (Hs.copyF (fun _ => .int .u8 0) 0 (min s.length 32) s)) := ⟨_, rfl⟩
  have hcp' : Sem.run Tryd.prog (Builtin.copy_ #[38, 9] 3 #[.slice (some ⟨w.heap.size, 0, none⟩) 32 32, .string ⟨s.toArray⟩]) (w.alloc (.cells (Own.zeros 32 (.int .u8 0)) 5)) = .ok (.int .i64 ((min s.length 32 : Nat) : Int)) w2 := by
    rw [hw2]; exact hcp
  have HB : Hid (Below w.heap.size w w2) := by
    rw [hw2]; exact ((Below.refl _ _).alloc (Nat.le_refl _) _).trans (below_setRow _ _ _)
  have HC : Hid (∀ j (h : j < (seedL s).length), w2.cell? ⟨w.heap.size, 0 + j, none⟩ = some (.int .u8 ((seedL s)[j].toNat : Int))) := by
    intro j hj
    have h32 : j < 32 := by rw [seedL_len] at hj; exact hj
    have hrow : w2.heap[w.heap.size]? = some (.cells (Own.mkRow 32 (Hs.copyF (fun _ => .int .u8 0) 0 (min s.length 32) s)) 5 (0, 0)) := by
      rw [hw2]; exact setRow_heap _ _ _ _ _ _ (heap_alloc_new _ _)
    rw [Nat.zero_add, Own.row_cell hrow j h32, seedL_get]
    unfold Hs.copyF
    by_cases h : j < s.length
    · rw [if_pos ⟨by omega, by omega⟩]; rfl
    · rw [if_neg (by omega)]
      rw [List.getD_eq_getElem?_getD, List.getElem?_eq_none (by omega)]
      rfl
  clear hw2 hcp hmn
  obtain ⟨sl, hsl⟩ : ∃ l, l = seedL s := ⟨_, rfl⟩
  have hsll : sl.length = 32 := by rw [hsl]; exact seedL_len s
  rw [← hsl] at HC ⊢
  clear hsl
  go_enter Tryd.func16, Tryd.ntmps16
  go_wp2_with (first | refine Own.wpList_make_at _ rfl _ _ 38 rfl 5 (.int .u8 0) 1 Tryd.underlying38 (by kernel_rfl) rfl .i64 .i64 32 32 32 rfl rfl rfl rfl (by decide) (by decide) ?_ | refine Own.wpList_string_at _ rfl _ 38 9 5 rfl Tryd.underlying38 Tryd.underlying5 Tryd.underlying9 w.heap.size 0 32 sl (by rw [hsll]; rfl) HC.out ?_)
  exact bodyPost_ret (v := .string ⟨sl.toArray⟩) (by simp [results, Tryd.results16, go_sem]) rfl ⟨rfl, HB.out⟩
end Gw
end Go.Proofs.YtbojijefenfbgaaDoor
namespace Go.Proofs.YtbojijefenfbgaaDoor
open Go.RowKit
namespace Gw
open Fw Bt Ww Sw Cw Ed
theorem right_not {l t t' : List UInt8} (h : (sec l * kN (rB l t) (keyB l) t) % LL ≠ (sec l * kN (rB l t) (keyB l) t') % LL) : rightE (keyB l) t' (sigB l t) = false := by
  cases h' : rightE (keyB l) t' (sigB l t) with
  | false => rfl
  | true =>
    obtain ⟨_, _, p, hp, he, hr⟩ := (right_iff _ _ _).1 (right_sig base_order l t)
    obtain ⟨_, _, p', hp', he', hr'⟩ := (right_iff _ _ _).1 h'
    obtain rfl : p' = p := encP_inj hp' hp (he'.trans he.symm)
    have hpe : p' = mulP bP (sec l) := encP_inj hp (mulP_on bP_on _) he
    rw [sig_take] at hr hr'
    have hb := mulP_on bP_on (le ((sigB l t).drop 32))
    have h2 := encP_inj (padd_on hb (mulP_on (neg_on hp) _)) (padd_on hb (mulP_on (neg_on hp) _)) (hr.trans hr'.symm)
    rw [padd_comm, padd_comm (mulP bP _)] at h2
    have h3 := cancel (mulP_on (neg_on hp) _) (mulP_on (neg_on hp) _) hb h2
    rw [mulP_neg, mulP_neg] at h3
    have h4 := congrArg neg h3
    have hnn : ∀ q : Pt, neg (neg q) = q := fun q => by
      have : ∀ (n : Nat) [NeZero n] (a : Fin n), - -a = a := by intro n _ a; grind
      exact Prod.ext (this P q.1) rfl
    rw [hnn, hnn, hpe, mulP_mul bP_on, mulP_mul bP_on, ← ord_mod bP_on base_order, ← ord_mod bP_on base_order (sec l * _)] at h4
    exact absurd (ord_inj Nt.prime_L bP_on base_order bP_ne (Nat.mod_lt _ (by decide)) (Nat.mod_lt _ (by decide)) h4) h
def seedA : List UInt8 := [157, 97, 177, 157, 239, 253, 90, 96, 186, 132, 74, 244, 146, 236, 44, 196, 68, 73, 197, 105, 123, 50, 105, 25, 112, 59, 172, 3, 28, 174, 127, 96]
def keyA : List UInt8 := [215, 90, 152, 1, 130, 177, 10, 183, 213, 75, 254, 211, 201, 100, 7, 58, 14, 225, 114, 243, 218, 166, 35, 37, 175, 2, 26, 104, 247, 7, 81, 26]
theorem secA : sec seedA = 36144925721603087658594284515452164870581325872720374094707712194495455132720 := by kernel_rfl
theorem key_A : keyB seedA = keyA := by
  rw [key_eq, secA, mul_is bP_on (aff_rep bX bY) 36144925721603087658594284515452164870581325872720374094707712194495455132720 255 (by decide) ⟨38815646466658113194383306759739515082307681141926459231621296960732224964046, by decide⟩ ⟨11903303657706407974989296177215005343713679411332034699907763981919547054807, by decide⟩ (by kernel_rfl)]
  kernel_rfl
def seedK : List UInt8 := [107, 110, 111, 119, 110, 0, 0, 0, 0, 0, 0, 0, 0, 0, 0, 0, 0, 0, 0, 0, 0, 0, 0, 0, 0, 0, 0, 0, 0, 0, 0, 0]
def keyK : List UInt8 := [72, 255, 132, 147, 233, 63, 233, 16, 127, 146, 214, 23, 146, 124, 127, 30, 120, 74, 13, 0, 59, 233, 18, 182, 109, 18, 57, 209, 168, 54, 47, 24]
def rK : List UInt8 := [57, 202, 179, 192, 162, 49, 85, 118, 28, 149, 49, 9, 94, 155, 103, 101, 58, 72, 197, 251, 226, 160, 133, 99, 218, 246, 69, 189, 75, 236, 99, 219]
def textB : List UInt8 := [116, 101, 120, 116]
def otherB : List UInt8 := [111, 116, 104, 101, 114]
theorem secK : sec seedK = 30037598882120129009155201257974979392490464250629725771931268206217393640296 := by kernel_rfl
theorem key_K : keyB seedK = keyK := by
  rw [key_eq, secK, mul_is bP_on (aff_rep bX bY) 30037598882120129009155201257974979392490464250629725771931268206217393640296 255 (by decide) ⟨15436435100791405191934914090167307024995744258656122004116845650669388481800, by decide⟩ ⟨10938927423650491168425805167276744213914469744306601235128761887934720048968, by decide⟩ (by kernel_rfl)]
  kernel_rfl
theorem rN_K : rN seedK textB = 1514285187564685494526331829676399496877738154236941491437673840624201838859 := by kernel_rfl
theorem r_K : rB seedK textB = rK := by
  unfold rB
  rw [rN_K, mul_is bP_on (aff_rep bX bY) 1514285187564685494526331829676399496877738154236941491437673840624201838859 253 (by decide) ⟨49354552925157036369324901240101365993863430751400130997122547626773495814355, by decide⟩ ⟨41337017934556948756531501349086884857331664136162868595427688982862825245241, by decide⟩ (by kernel_rfl)]
  kernel_rfl
theorem k1_K : kN rK keyK textB = 7199715639369767300615814932088150053470669721669099300904680001051694353476 := by kernel_rfl
theorem k2_K : kN rK keyK otherB = 817529664804467818413897480775547799226121357197254612520672516295864182727 := by kernel_rfl
theorem known_not : rightE (keyB seedK) otherB (sigB seedK textB) = false := right_not (by
  rw [r_K, key_K, k1_K, k2_K, secK]
  decide)
end Gw
end Go.Proofs.YtbojijefenfbgaaDoor
namespace Go.Proofs.YtbojijefenfbgaaDoor
open Go.RowKit
namespace Gw
open Fw Bt Ww Sw Cw Ed
theorem pkey_n (l : List UInt8) (hl : l.length ≠ 32) (w : World) : Calls Tryd.prog 8 #[.string ⟨l.toArray⟩] w fun e w' => e = .returned (.tuple #[.string ⟨#[]⟩, .int .i64 1]) ∧ Below w.heap.size w w' := by
  have hli : (l.length : Int) ≠ 32 := by omega
  go_enter Tryd.func8, Tryd.ntmps8
  go_wp2_with fail
  exact bodyPost_ret (v := .tuple #[.string ⟨#[]⟩, .int .i64 1]) (by simp [results, Tryd.results8, go_sem]) rfl ⟨rfl, Below.refl _ _⟩
theorem psign_n (l t : List UInt8) (hl : l.length ≠ 32) (w : World) : Calls Tryd.prog 10 #[.string ⟨l.toArray⟩, .string ⟨t.toArray⟩] w fun e w' => e = .returned (.tuple #[.string ⟨#[]⟩, .int .i64 1]) ∧ Below w.heap.size w w' := by
  have hli : (l.length : Int) ≠ 32 := by omega
  go_enter Tryd.func10, Tryd.ntmps10
  go_wp2_with fail
  exact bodyPost_ret (v := .tuple #[.string ⟨#[]⟩, .int .i64 1]) (by simp [results, Tryd.results10, go_sem]) rfl ⟨rfl, Below.refl _ _⟩
theorem num_f (n : Int) (w : World) : Calls Tryd.prog 13 #[.int .i64 n] w fun e w' => e = .returned (.int .i64 n) ∧ Below w.heap.size w w' := by
  go_enter Tryd.func13, Tryd.ntmps13
  go_wp2_with fail
  exact bodyPost_ret (v := .int .i64 n) (by simp [results, Tryd.results13, go_sem]) rfl ⟨rfl, Below.refl _ _⟩
theorem lseed_f (w : World) : Calls Tryd.prog 12 #[] w fun e w' => e = .returned (.string ⟨seedA.toArray⟩) ∧ Below w.heap.size w w' := by
  go_enter Tryd.func12, Tryd.ntmps12
  go_wp2_with fail
  exact bodyPost_ret (v := .string ⟨seedA.toArray⟩) (by simp [results, Tryd.results12, go_sem, seedA]) rfl ⟨rfl, Below.refl _ _⟩
theorem lkey_f (w : World) : Calls Tryd.prog 14 #[] w fun e w' => e = .returned (.string ⟨keyA.toArray⟩) ∧ Below w.heap.size w w' := by
  go_enter Tryd.func14, Tryd.ntmps14
  go_wp2_with fail
  exact bodyPost_ret (v := .string ⟨keyA.toArray⟩) (by simp [results, Tryd.results14, go_sem, keyA]) rfl ⟨rfl, Below.refl _ _⟩
/-- What Key and Sign answer, the program's and the document's. -/
theorem both (s t : List UInt8) (htl : t.length ≤ 900000000) : ∃ (kb sb : ByteArray) (n : Int),
    (∀ w, Hs.TabAt w → Calls Tryd.prog 8 #[.string ⟨s.toArray⟩] w fun e w' => e = .returned (.tuple #[.string kb, .int .i64 n]) ∧ Below w.heap.size w w') ∧
    (∀ w, Calls Tryd.prog 9 #[.string ⟨s.toArray⟩] w fun e w' => e = .returned (.tuple #[.string kb, .int .i64 n]) ∧ Below w.heap.size w w') ∧
    (∀ w, Hs.TabAt w → Calls Tryd.prog 10 #[.string ⟨s.toArray⟩, .string ⟨t.toArray⟩] w fun e w' => e = .returned (.tuple #[.string sb, .int .i64 n]) ∧ Below w.heap.size w w') ∧
    (∀ w, Calls Tryd.prog 11 #[.string ⟨s.toArray⟩, .string ⟨t.toArray⟩] w fun e w' => e = .returned (.tuple #[.string sb, .int .i64 n]) ∧ Below w.heap.size w w') := by
  by_cases hl : s.length = 32
  · exact ⟨_, _, _, fun w ht => pkey_f s hl w ht, fun w => Dc.refKey_d s hl w, fun w ht => psign_f s t hl htl w ht, fun w => Dc.refSign_d s t hl htl w⟩
  · exact ⟨_, _, _, fun w _ => pkey_n s hl w, fun w => Dc.refKey_n s hl w, fun w _ => psign_n s t hl w, fun w => Dc.refSign_n s t hl w⟩
set_option maxRecDepth 100000 in
set_option maxHeartbeats 400000 in
theorem keys_f (s t : List UInt8) (htl : t.length ≤ 900000000) (w : World) (ht : Hs.TabAt w) : Calls Tryd.prog 4 #[.string ⟨s.toArray⟩, .string ⟨t.toArray⟩] w fun e w' => e = .returned (.bool true) ∧ Below w.heap.size w w' := by
  obtain ⟨kb, sb, n, h1, h2, h3, h4⟩ := both s t htl
  have H1 : Hid _ := h1
  have H2 : Hid _ := h2
  have H3 : Hid _ := h3
  have H4 : Hid _ := h4
  have Hn : Hid _ := num_f n
  have Hse : Hid _ := lseed_f
  have Hke : Hid _ := lkey_f
  have HkA : Hid (∀ w, Hs.TabAt w → Calls Tryd.prog 8 #[.string ⟨seedA.toArray⟩] w fun e w' => e = .returned (.tuple #[.string ⟨keyA.toArray⟩, .int .i64 0]) ∧ Below w.heap.size w w') := by
    intro w ht
    have h := pkey_f seedA rfl w ht
    rw [key_A] at h
    exact h
  have Ht : Hid (Hs.TabAt w) := ht
  clear h1 h2 h3 h4 htl ht
  obtain ⟨sA, hsA⟩ : ∃ x, x = seedA.toArray := ⟨_, rfl⟩
  obtain ⟨kA, hkA⟩ : ∃ x, x = keyA.toArray := ⟨_, rfl⟩
  rw [← hsA] at Hse HkA
  rw [← hkA] at Hke HkA
  clear hsA hkA
  go_enter Tryd.func4, Tryd.ntmps4
  go_wp2_with fail
  refine (H1.out _ Ht.out).mono ?_
  rintro _ w1 ⟨rfl, hb1⟩
  have HB1 : Hid (Below w.heap.size w w1) := hb1
  clear hb1 H1
  go_wp2_with fail
  refine (H2.out _).mono ?_
  rintro _ w2 ⟨rfl, hb2⟩
  have HB2 : Hid (Below w.heap.size w w2) := HB1.out.trans (hb2.mono HB1.out.size)
  have Ht2 : Hid (Hs.TabAt w2) := Ht.out.below HB2.out Ht.out.lt
  clear hb2 H2 HB1
  go_wp2_with fail
  refine (H3.out _ Ht2.out).mono ?_
  rintro _ w3 ⟨rfl, hb3⟩
  have HB3 : Hid (Below w.heap.size w w3) := HB2.out.trans (hb3.mono HB2.out.size)
  clear hb3 H3 HB2 Ht2
  go_wp2_with fail
  refine (H4.out _).mono ?_
  rintro _ w4 ⟨rfl, hb4⟩
  have HB4 : Hid (Below w.heap.size w w4) := HB3.out.trans (hb4.mono HB3.out.size)
  clear hb4 H4 HB3
  go_wp2_with fail
  refine (Hse.out _).mono ?_
  rintro _ w5 ⟨rfl, hb5⟩
  have HB5 : Hid (Below w.heap.size w w5) := HB4.out.trans (hb5.mono HB4.out.size)
  have Ht5 : Hid (Hs.TabAt w5) := Ht.out.below HB5.out Ht.out.lt
  clear hb5 Hse HB4
  go_wp2_with fail
  refine (HkA.out _ Ht5.out).mono ?_
  rintro _ w6 ⟨rfl, hb6⟩
  have HB6 : Hid (Below w.heap.size w w6) := HB5.out.trans (hb6.mono HB5.out.size)
  clear hb6 HkA HB5 Ht5
  go_wp2_with fail
  refine (Hn.out _).mono ?_
  rintro _ w7 ⟨rfl, hb7⟩
  have HB7 : Hid (Below w.heap.size w w7) := HB6.out.trans (hb7.mono HB6.out.size)
  clear hb7 HB6
  go_wp2_with fail
  refine (Hn.out _).mono ?_
  rintro _ w8 ⟨rfl, hb8⟩
  have HB8 : Hid (Below w.heap.size w w8) := HB7.out.trans (hb8.mono HB7.out.size)
  clear hb8 HB7
  go_wp2_with fail
  refine (Hke.out _).mono ?_
  rintro _ w9 ⟨rfl, hb9⟩
  have HB9 : Hid (Below w.heap.size w w9) := HB8.out.trans (hb9.mono HB8.out.size)
  clear hb9 HB8
  go_wp2_with fail
  exact bodyPost_ret (v := .bool true) (by simp [results, Tryd.results4, go_sem]) rfl ⟨rfl, HB9.out⟩
end Gw
end Go.Proofs.YtbojijefenfbgaaDoor
