/- Multiples of a point reckoned by the kernel; the base's order. -/
/- Walks of the package postern: Key, Sign, Right. -/
/- Walks of the package posternkeep: seed, pick. -/
/- The known answers, reckoned by the kernel. -/
/- Small walks of posternlaw, and what Key and Sign answer on both sides. -/
/- Walks of bounds, of the document's in, of digits and High. -/
/- A region that draws its order, walked in the text's order: of each value of its head something is said that lasts (one value, or a block that was made); an operation that looks at a block that was made waits for what made it. -/
import Derived.Test.YtbojijefenfbgaaGreatDoorTkDocS
import Derived.Test.YtbojijefenfbgaaGreatDoorTkQRel
namespace Go.Proofs.YtbojijefenfbgaaGreatDoor
open Go.RowKit
namespace Ed
/-- k of n, with n reckoned first. -/
def force (n : Nat) (k : Nat → Bool) : Bool := Nat.rec (k 0) (fun m _ => k (m + 1)) n
theorem force_eq (n : Nat) (k : Nat → Bool) : force n k = k n := by cases n <;> rfl
def frc (v : F) (k : F → Bool) : Bool := force v.val fun n => k (Fin.ofNat P n)
theorem frc_eq (v : F) (k : F → Bool) : frc v k = k v := by
  unfold frc
  rw [force_eq]
  congr 1
  exact Fin.ext (Nat.mod_eq_of_lt v.isLt)
def frcE (e : E) (k : E → Bool) : Bool := frc e.x fun x => frc e.y fun y => frc e.z fun z => frc e.t fun t => k ⟨x, y, z, t⟩
theorem frcE_eq (e : E) (k : E → Bool) : frcE e k = k e := by
  unfold frcE
  rw [frc_eq, frc_eq, frc_eq, frc_eq]
/-- The bits of n from the i-th down, behind acc. -/
def runB (b : E) (n : Nat) : Nat → E → (E → Bool) → Bool
  | 0, acc, k => k acc
  | i + 1, acc, k => frcE (edbl acc) fun a => cond (Nat.beq (n / 2 ^ i % 2) 1) (frcE (eadd a b) fun a => runB b n i a k) (runB b n i a k)
theorem runB_rep {b : E} {p : Pt} (hp : OnP p) (hb : Rep b p) (n : Nat) (k : E → Bool) (i : Nat) : ∀ acc, Rep acc (mulP p (n / 2 ^ i)) → runB b n i acc k = true → ∃ e, Rep e (mulP p n) ∧ k e = true := by
  induction i with
  | zero =>
    intro acc h hr
    rw [Nat.pow_zero, Nat.div_one] at h
    exact ⟨acc, h, hr⟩
  | succ i ih =>
    intro acc h hr
    unfold runB at hr
    rw [frcE_eq] at hr
    have hd := edbl_rep (mulP_on hp _) h
    rw [← mulP_add hp] at hd
    have e2 : n / 2 ^ (i + 1) = n / 2 ^ i / 2 := by rw [Nat.pow_succ, Nat.div_div_eq_div_mul]
    rw [e2] at hd
    cases hc : Nat.beq (n / 2 ^ i % 2) 1 with
    | true =>
      rw [hc, cond_true, frcE_eq] at hr
      have h1 : n / 2 ^ i % 2 = 1 := Nat.eq_of_beq_eq_true hc
      have ha := eadd_rep (mulP_on hp _) hp hd hb
      have e3 : padd (mulP p (n / 2 ^ i / 2 + n / 2 ^ i / 2)) p = mulP p (n / 2 ^ i / 2 + n / 2 ^ i / 2 + 1) := rfl
      rw [e3, show n / 2 ^ i / 2 + n / 2 ^ i / 2 + 1 = n / 2 ^ i by omega] at ha
      exact ih _ ha hr
    | false =>
      rw [hc, cond_false] at hr
      have h1 : n / 2 ^ i % 2 ≠ 1 := Nat.ne_of_beq_eq_false hc
      rw [show n / 2 ^ i / 2 + n / 2 ^ i / 2 = n / 2 ^ i by omega] at hd
      exact ih _ hd hr
/-- n times p is the point (x, y), as the kernel reckons. -/
def isB (x y : F) (e : E) : Bool := Nat.beq e.x.val (x * e.z).val && Nat.beq e.y.val (y * e.z).val
theorem gen_commu (n : Nat) [NeZero n] (a b : Fin n) : a * b = b * a := by grind
theorem isB_spec {x y : F} {e : E} {q : Pt} (h : isB x y e = true) (hr : Rep e q) : q = (x, y) := by
  unfold isB at h
  rw [Bool.and_eq_true] at h
  have h1 : e.x = x * e.z := Fin.ext (Nat.eq_of_beq_eq_true h.1)
  have h2 : e.y = y * e.z := Fin.ext (Nat.eq_of_beq_eq_true h.2)
  have c1 : e.z * q.1 = e.z * x := by rw [gen_commu P e.z q.1, gen_commu P e.z x, ← hr.x, h1]
  have c2 : e.z * q.2 = e.z * y := by rw [gen_commu P e.z q.2, gen_commu P e.z y, ← hr.y, h2]
  exact Prod.ext (mul_cancel hr.z c1) (mul_cancel hr.z c2)
theorem mul_is {b : E} {p : Pt} (hp : OnP p) (hb : Rep b p) (n i : Nat) (hn : n < 2 ^ i) (x y : F) (h : runB b n i ezero (isB x y) = true) : mulP p n = (x, y) := by
  have h0 : Rep ezero (mulP p (n / 2 ^ i)) := by
    rw [Nat.div_eq_of_lt hn]
    exact ezero_rep
  obtain ⟨e, hr, hk⟩ := runB_rep hp hb n _ i _ h0 h
  exact isB_spec hk hr
end Ed
namespace Gw
open Fw Bt Ww Sw Cw Ed
theorem base_order : mulP bP LL = zero := mul_is bP_on (aff_rep bX bY) LL 253 (by decide) 0 1 (by kernel_rfl)
end Gw
end Go.Proofs.YtbojijefenfbgaaGreatDoor
namespace Go.Proofs.YtbojijefenfbgaaGreatDoor
open Go.RowKit
namespace Gw
open Fw Bt Ww Sw Cw Ed
set_option maxHeartbeats 400000 in
theorem pkey_f (l : List UInt8) (hl : l.length = 32) (w : World) (ht : Hs.TabAt w) : Calls Tryz.prog 34 #[.string ⟨l.toArray⟩] w fun e w' => e = .returned (.tuple #[.string ⟨(keyB l).toArray⟩, .int .i64 0]) ∧ Below w.heap.size w w' := by
  have Hk : Hid (∀ w, Hs.TabAt w → Calls Tryz.prog 83 #[.string ⟨l.toArray⟩] w fun e w' => e = .returned (.string ⟨(keyB l).toArray⟩) ∧ Below w.heap.size w w') := fun w ht => key_f l (by omega) w ht
  obtain ⟨kb, hkb⟩ : ∃ k, k = keyB l := ⟨_, rfl⟩
  rw [← hkb] at Hk ⊢
  clear hkb
  have Ht : Hid (Hs.TabAt w) := ht
  have hli : (l.length : Int) = 32 := by omega
  clear ht
  go_enter Tryz.func34, Tryz.ntmps34
  go_wp2_with fail
  refine (Hk.out w Ht.out).mono ?_
  rintro e w1 ⟨rfl, hb1⟩
  have HB : Hid (Below w.heap.size w w1) := hb1
  clear hb1
  go_wp2_with fail
  exact bodyPost_ret (v := .tuple #[.string ⟨kb.toArray⟩, .int .i64 0]) (by simp [results, Tryz.results34, go_sem]) rfl ⟨rfl, HB.out⟩
set_option maxHeartbeats 400000 in
theorem psign_f (l t : List UInt8) (hl : l.length = 32) (htl : t.length ≤ 900000000) (w : World) (ht : Hs.TabAt w) : Calls Tryz.prog 14 #[.string ⟨l.toArray⟩, .string ⟨t.toArray⟩] w fun e w' => e = .returned (.tuple #[.string ⟨(sigB l t).toArray⟩, .int .i64 0]) ∧ Below w.heap.size w w' := by
  have Hk : Hid (∀ w, Hs.TabAt w → Calls Tryz.prog 54 #[.string ⟨l.toArray⟩, .string ⟨t.toArray⟩] w fun e w' => e = .returned (.string ⟨(sigB l t).toArray⟩) ∧ Below w.heap.size w w') := fun w ht => sign_f l t (by omega) htl w ht
  obtain ⟨kb, hkb⟩ : ∃ k, k = sigB l t := ⟨_, rfl⟩
  rw [← hkb] at Hk ⊢
  clear hkb
  have Ht : Hid (Hs.TabAt w) := ht
  have hli : (l.length : Int) = 32 := by omega
  clear ht
  go_enter Tryz.func14, Tryz.ntmps14
  go_wp2_with fail
  refine (Hk.out w Ht.out).mono ?_
  rintro e w1 ⟨rfl, hb1⟩
  have HB : Hid (Below w.heap.size w w1) := hb1
  clear hb1
  go_wp2_with fail
  exact bodyPost_ret (v := .tuple #[.string ⟨kb.toArray⟩, .int .i64 0]) (by simp [results, Tryz.results14, go_sem]) rfl ⟨rfl, HB.out⟩
set_option maxHeartbeats 400000 in
theorem pright_f (k t g : List UInt8) (htl : t.length ≤ 900000000) (w : World) (ht : Hs.TabAt w) : Calls Tryz.prog 11 #[.string ⟨k.toArray⟩, .string ⟨t.toArray⟩, .string ⟨g.toArray⟩] w fun e w' => e = .returned (.bool (rightE k t g)) ∧ Below w.heap.size w w' := by
  have Hk : Hid (∀ w, Hs.TabAt w → Calls Tryz.prog 52 #[.string ⟨k.toArray⟩, .string ⟨t.toArray⟩, .string ⟨g.toArray⟩] w fun e w' => e = .returned (.bool (rightE k t g)) ∧ Below w.heap.size w w') := fun w ht => right_f k t g htl w ht
  obtain ⟨kb, hkb⟩ : ∃ b, b = rightE k t g := ⟨_, rfl⟩
  rw [← hkb] at Hk ⊢
  clear hkb
  have Ht : Hid (Hs.TabAt w) := ht
  clear ht
  go_enter Tryz.func11, Tryz.ntmps11
  go_wp2_with fail
  refine (Hk.out w Ht.out).mono ?_
  rintro e w1 ⟨rfl, hb1⟩
  have HB : Hid (Below w.heap.size w w1) := hb1
  clear hb1
  go_wp2_with fail
  exact bodyPost_ret (v := .bool kb) (by simp [results, Tryz.results11, go_sem]) rfl ⟨rfl, HB.out⟩
end Gw
end Go.Proofs.YtbojijefenfbgaaGreatDoor
namespace Go.Proofs.YtbojijefenfbgaaGreatDoor
open Go.RowKit
namespace Gw
open Fw Bt Ww Sw Cw Ed
def seedL (s : List UInt8) : List UInt8 := (s ++ List.replicate 32 0).take 32
theorem seedL_len (s : List UInt8) : (seedL s).length = 32 := by unfold seedL; simp
theorem seedL_get (s : List UInt8) (j : Nat) (hj : j < (seedL s).length) : (seedL s)[j] = s.getD j 0 := by
  have h32 : j < 32 := by rw [seedL_len] at hj; exact hj
  have h : (seedL s)[j]? = some (s.getD j 0) := by
    unfold seedL
    rw [List.getElem?_take_of_lt h32, List.getElem?_append]
    by_cases hs : j < s.length
    · rw [if_pos hs, List.getElem?_eq_getElem hs]; simp [hs]
    · rw [if_neg hs, List.getElem?_replicate, if_pos (by omega), List.getD_eq_getElem?_getD, List.getElem?_eq_none (by omega)]; rfl
  rw [List.getElem?_eq_getElem hj] at h
  exact Option.some.inj h
set_option maxHeartbeats 400000 in
theorem seed_f (s : List UInt8) (w : World) : Calls Tryz.prog 29 #[.string ⟨s.toArray⟩] w fun e w' => e = .returned (.string ⟨(seedL s).toArray⟩) ∧ Below w.heap.size w w' := by
  have hcp := Hs.run_copy_min (w.alloc (.cells (Own.zeros 32 (.int .u8 0)) 5)) w.heap.size 0 32 32 32 ⟨s.toArray⟩ (fun _ => .int .u8 0) 5 3 (heap_alloc_new _ _) (by omega)
  have hmn : min (⟨s.toArray⟩ : ByteArray).size 32 = min s.length 32 := rfl
  rw [hmn] at hcp
  obtain ⟨w2, hw2⟩ : ∃ w2, w2 = (w.alloc (.cells (Own.zeros 32 (.int .u8 0)) 5)).setRow w.heap.size (Own.mkRow 32 (Hs.copyF (fun _ => .int .u8 0) 0 (min s.length 32) s)) := ⟨_, rfl⟩
  have hcp' : Sem.run Tryz.prog (Builtin.copy_ #[145, 9] 3 #[.slice (some ⟨w.heap.size, 0, none⟩) 32 32, .string ⟨s.toArray⟩]) (w.alloc (.cells (Own.zeros 32 (.int .u8 0)) 5)) = .ok (.int .i64 ((min s.length 32 : Nat) : Int)) w2 := by
    rw [hw2]; exact hcp
  have HB : Hid (Below w.heap.size w w2) := by
    rw [hw2]; exact ((Below.refl _ _).alloc (Nat.le_refl _) _).trans (below_setRow _ _ _)
  have HC : Hid (∀ j (h : j < (seedL s).length), w2.cell? ⟨w.heap.size, 0 + j, none⟩ = some (.int .u8 ((seedL s)[j].toNat : Int))) := by
    intro j hj
    have h32 : j < 32 := by rw [seedL_len] at hj; exact hj
    have hrow : w2.heap[w.heap.size]? = some (.cells (Own.mkRow 32 (Hs.copyF (fun _ => .int .u8 0) 0 (min s.length 32) s)) 5 (0, 0)) := by
      rw [hw2]; exact setRow_heap _ _ _ _ _ _ (heap_alloc_new _ _)
    rw [Nat.zero_add, Own.row_cell hrow j h32, seedL_get]
    unfold Hs.copyF
    by_cases h : j < s.length
    · rw [if_pos ⟨by omega, by omega⟩]; rfl
    · rw [if_neg (by omega)]
      rw [List.getD_eq_getElem?_getD, List.getElem?_eq_none (by omega)]
      rfl
  clear hw2 hcp hmn
  obtain ⟨sl, hsl⟩ : ∃ l, l = seedL s := ⟨_, rfl⟩
  have hsll : sl.length = 32 := by rw [hsl]; exact seedL_len s
  rw [← hsl] at HC ⊢
  clear hsl
  go_enter Tryz.func29, Tryz.ntmps29
  go_wp2_with (first | refine Own.wpList_make_at _ rfl _ _ 145 rfl 5 (.int .u8 0) 1 Tryz.underlying145 (by kernel_rfl) rfl .i64 .i64 32 32 32 rfl rfl rfl rfl (by decide) (by decide) ?_ | refine Own.wpList_string_at _ rfl _ 145 9 5 rfl Tryz.underlying145 Tryz.underlying5 Tryz.underlying9 w.heap.size 0 32 sl (by rw [hsll]; rfl) HC.out ?_)
  exact bodyPost_ret (v := .string ⟨sl.toArray⟩) (by simp [results, Tryz.results29, go_sem]) rfl ⟨rfl, HB.out⟩
end Gw
end Go.Proofs.YtbojijefenfbgaaGreatDoor
namespace Go.Proofs.YtbojijefenfbgaaGreatDoor
open Go.RowKit
namespace Gw
open Fw Bt Ww Sw Cw Ed
theorem right_not {l t t' : List UInt8} (h : (sec l * kN (rB l t) (keyB l) t) % LL ≠ (sec l * kN (rB l t) (keyB l) t') % LL) : rightE (keyB l) t' (sigB l t) = false := by
  cases h' : rightE (keyB l) t' (sigB l t) with
  | false => rfl
  | true =>
    obtain ⟨_, _, p, hp, he, hr⟩ := (right_iff _ _ _).1 (right_sig base_order l t)
    obtain ⟨_, _, p', hp', he', hr'⟩ := (right_iff _ _ _).1 h'
    obtain rfl : p' = p := encP_inj hp' hp (he'.trans he.symm)
    have hpe : p' = mulP bP (sec l) := encP_inj hp (mulP_on bP_on _) he
    rw [sig_take] at hr hr'
    have hb := mulP_on bP_on (le ((sigB l t).drop 32))
    have h2 := encP_inj (padd_on hb (mulP_on (neg_on hp) _)) (padd_on hb (mulP_on (neg_on hp) _)) (hr.trans hr'.symm)
    rw [padd_comm, padd_comm (mulP bP _)] at h2
    have h3 := cancel (mulP_on (neg_on hp) _) (mulP_on (neg_on hp) _) hb h2
    rw [mulP_neg, mulP_neg] at h3
    have h4 := congrArg neg h3
    have hnn : ∀ q : Pt, neg (neg q) = q := fun q => by
      have : ∀ (n : Nat) [NeZero n] (a : Fin n), - -a = a := by intro n _ a; grind
      exact Prod.ext (this P q.1) rfl
    rw [hnn, hnn, hpe, mulP_mul bP_on, mulP_mul bP_on, ← ord_mod bP_on base_order, ← ord_mod bP_on base_order (sec l * _)] at h4
    exact absurd (ord_inj Nt.prime_L bP_on base_order bP_ne (Nat.mod_lt _ (by decide)) (Nat.mod_lt _ (by decide)) h4) h
def seedA : List UInt8 := [157, 97, 177, 157, 239, 253, 90, 96, 186, 132, 74, 244, 146, 236, 44, 196, 68, 73, 197, 105, 123, 50, 105, 25, 112, 59, 172, 3, 28, 174, 127, 96]
def keyA : List UInt8 := [215, 90, 152, 1, 130, 177, 10, 183, 213, 75, 254, 211, 201, 100, 7, 58, 14, 225, 114, 243, 218, 166, 35, 37, 175, 2, 26, 104, 247, 7, 81, 26]
theorem secA : sec seedA = 36144925721603087658594284515452164870581325872720374094707712194495455132720 := by kernel_rfl
theorem key_A : keyB seedA = keyA := by
  rw [key_eq, secA, mul_is bP_on (aff_rep bX bY) 36144925721603087658594284515452164870581325872720374094707712194495455132720 255 (by decide) ⟨38815646466658113194383306759739515082307681141926459231621296960732224964046, by decide⟩ ⟨11903303657706407974989296177215005343713679411332034699907763981919547054807, by decide⟩ (by kernel_rfl)]
  kernel_rfl
def seedK : List UInt8 := [107, 110, 111, 119, 110, 0, 0, 0, 0, 0, 0, 0, 0, 0, 0, 0, 0, 0, 0, 0, 0, 0, 0, 0, 0, 0, 0, 0, 0, 0, 0, 0]
def keyK : List UInt8 := [72, 255, 132, 147, 233, 63, 233, 16, 127, 146, 214, 23, 146, 124, 127, 30, 120, 74, 13, 0, 59, 233, 18, 182, 109, 18, 57, 209, 168, 54, 47, 24]
def rK : List UInt8 := [57, 202, 179, 192, 162, 49, 85, 118, 28, 149, 49, 9, 94, 155, 103, 101, 58, 72, 197, 251, 226, 160, 133, 99, 218, 246, 69, 189, 75, 236, 99, 219]
def textB : List UInt8 := [116, 101, 120, 116]
def otherB : List UInt8 := [111, 116, 104, 101, 114]
theorem secK : sec seedK = 30037598882120129009155201257974979392490464250629725771931268206217393640296 := by kernel_rfl
theorem key_K : keyB seedK = keyK := by
  rw [key_eq, secK, mul_is bP_on (aff_rep bX bY) 30037598882120129009155201257974979392490464250629725771931268206217393640296 255 (by decide) ⟨15436435100791405191934914090167307024995744258656122004116845650669388481800, by decide⟩ ⟨10938927423650491168425805167276744213914469744306601235128761887934720048968, by decide⟩ (by kernel_rfl)]
  kernel_rfl
theorem rN_K : rN seedK textB = 1514285187564685494526331829676399496877738154236941491437673840624201838859 := by kernel_rfl
theorem r_K : rB seedK textB = rK := by
  unfold rB
  rw [rN_K, mul_is bP_on (aff_rep bX bY) 1514285187564685494526331829676399496877738154236941491437673840624201838859 253 (by decide) ⟨49354552925157036369324901240101365993863430751400130997122547626773495814355, by decide⟩ ⟨41337017934556948756531501349086884857331664136162868595427688982862825245241, by decide⟩ (by kernel_rfl)]
  kernel_rfl
theorem k1_K : kN rK keyK textB = 7199715639369767300615814932088150053470669721669099300904680001051694353476 := by kernel_rfl
theorem k2_K : kN rK keyK otherB = 817529664804467818413897480775547799226121357197254612520672516295864182727 := by kernel_rfl
theorem known_not : rightE (keyB seedK) otherB (sigB seedK textB) = false := right_not (by
  rw [r_K, key_K, k1_K, k2_K, secK]
  decide)
end Gw
end Go.Proofs.YtbojijefenfbgaaGreatDoor
namespace Go.Proofs.YtbojijefenfbgaaGreatDoor
open Go.RowKit
namespace Gw
open Fw Bt Ww Sw Cw Ed
theorem pkey_n (l : List UInt8) (hl : l.length ≠ 32) (w : World) : Calls Tryz.prog 34 #[.string ⟨l.toArray⟩] w fun e w' => e = .returned (.tuple #[.string ⟨#[]⟩, .int .i64 1]) ∧ Below w.heap.size w w' := by
  have hli : (l.length : Int) ≠ 32 := by omega
  go_enter Tryz.func34, Tryz.ntmps34
  go_wp2_with fail
  exact bodyPost_ret (v := .tuple #[.string ⟨#[]⟩, .int .i64 1]) (by simp [results, Tryz.results34, go_sem]) rfl ⟨rfl, Below.refl _ _⟩
theorem psign_n (l t : List UInt8) (hl : l.length ≠ 32) (w : World) : Calls Tryz.prog 14 #[.string ⟨l.toArray⟩, .string ⟨t.toArray⟩] w fun e w' => e = .returned (.tuple #[.string ⟨#[]⟩, .int .i64 1]) ∧ Below w.heap.size w w' := by
  have hli : (l.length : Int) ≠ 32 := by omega
  go_enter Tryz.func14, Tryz.ntmps14
  go_wp2_with fail
  exact bodyPost_ret (v := .tuple #[.string ⟨#[]⟩, .int .i64 1]) (by simp [results, Tryz.results14, go_sem]) rfl ⟨rfl, Below.refl _ _⟩
theorem num_f (n : Int) (w : World) : Calls Tryz.prog 22 #[.int .i64 n] w fun e w' => e = .returned (.int .i64 n) ∧ Below w.heap.size w w' := by
  go_enter Tryz.func22, Tryz.ntmps22
  go_wp2_with fail
  exact bodyPost_ret (v := .int .i64 n) (by simp [results, Tryz.results22, go_sem]) rfl ⟨rfl, Below.refl _ _⟩
theorem lseed_f (w : World) : Calls Tryz.prog 15 #[] w fun e w' => e = .returned (.string ⟨seedA.toArray⟩) ∧ Below w.heap.size w w' := by
  go_enter Tryz.func15, Tryz.ntmps15
  go_wp2_with fail
  exact bodyPost_ret (v := .string ⟨seedA.toArray⟩) (by simp [results, Tryz.results15, go_sem, seedA]) rfl ⟨rfl, Below.refl _ _⟩
theorem lkey_f (w : World) : Calls Tryz.prog 16 #[] w fun e w' => e = .returned (.string ⟨keyA.toArray⟩) ∧ Below w.heap.size w w' := by
  go_enter Tryz.func16, Tryz.ntmps16
  go_wp2_with fail
  exact bodyPost_ret (v := .string ⟨keyA.toArray⟩) (by simp [results, Tryz.results16, go_sem, keyA]) rfl ⟨rfl, Below.refl _ _⟩
/-- What Key and Sign answer, the program's and the document's. -/
theorem both (s t : List UInt8) (htl : t.length ≤ 900000000) : ∃ (kb sb : ByteArray) (n : Int),
    (∀ w, Hs.TabAt w → Calls Tryz.prog 34 #[.string ⟨s.toArray⟩] w fun e w' => e = .returned (.tuple #[.string kb, .int .i64 n]) ∧ Below w.heap.size w w') ∧
    (∀ w, Calls Tryz.prog 126 #[.string ⟨s.toArray⟩] w fun e w' => e = .returned (.tuple #[.string kb, .int .i64 n]) ∧ Below w.heap.size w w') ∧
    (∀ w, Hs.TabAt w → Calls Tryz.prog 14 #[.string ⟨s.toArray⟩, .string ⟨t.toArray⟩] w fun e w' => e = .returned (.tuple #[.string sb, .int .i64 n]) ∧ Below w.heap.size w w') ∧
    (∀ w, Calls Tryz.prog 62 #[.string ⟨s.toArray⟩, .string ⟨t.toArray⟩] w fun e w' => e = .returned (.tuple #[.string sb, .int .i64 n]) ∧ Below w.heap.size w w') := by
  by_cases hl : s.length = 32
  · exact ⟨_, _, _, fun w ht => pkey_f s hl w ht, fun w => Dc.refKey_d s hl w, fun w ht => psign_f s t hl htl w ht, fun w => Dc.refSign_d s t hl htl w⟩
  · exact ⟨_, _, _, fun w _ => pkey_n s hl w, fun w => Dc.refKey_n s hl w, fun w _ => psign_n s t hl w, fun w => Dc.refSign_n s t hl w⟩
end Gw
end Go.Proofs.YtbojijefenfbgaaGreatDoor
namespace Go.Proofs.YtbojijefenfbgaaGreatDoor
open Go.RowKit
namespace Tk
open Bt
/-- Bytes of a number, the highest first. -/
def hiB (v : Nat) : Nat → List UInt8
  | 0 => []
  | n + 1 => hiB (v / 256) n ++ [UInt8.ofNat (v % 256)]
theorem hiB_len (v n : Nat) : (hiB v n).length = n := by
  induction n generalizing v with
  | zero => rfl
  | succ n ih => simp [hiB, ih]
theorem hiB_get (v n j : Nat) (h : j < (hiB v n).length) : ((hiB v n)[j]).toNat = v / 256 ^ (n - 1 - j) % 256 := by
  induction n generalizing v j with
  | zero => simp [hiB] at h
  | succ n ih =>
    have hl := hiB_len (v / 256) n
    have hj : j < n + 1 := by rw [hiB_len] at h; exact h
    simp only [hiB]
    by_cases e : j < n
    · rw [List.getElem_append_left (by omega), ih, Nat.div_div_eq_div_mul, show n + 1 - 1 - j = (n - 1 - j) + 1 by omega, Nat.pow_succ, Nat.mul_comm]
    · rw [List.getElem_append_right (by omega)]
      obtain rfl : j = n := by omega
      simp [hl]
def bet (lo n hi : Int) : Bool := decide (lo ≤ n) && decide (n ≤ hi)
theorem between_f (lo n hi : Int) (w : World) : Calls Tryz.prog 123 #[.int .i64 lo, .int .i64 n, .int .i64 hi] w fun e w' => e = .returned (.bool (bet lo n hi)) ∧ w' = w := by
  go_enter Tryz.func123, Tryz.ntmps123
  by_cases h : lo ≤ n
  · go_wp2_with fail
    exact bodyPost_ret (v := .bool (bet lo n hi)) (by simp [results, Tryz.results123, go_sem, bet, h]) rfl ⟨rfl, rfl⟩
  · go_wp2_with fail
    exact bodyPost_ret (v := .bool (bet lo n hi)) (by simp [results, Tryz.results123, go_sem, bet]; omega) rfl ⟨rfl, rfl⟩
theorem in_f (lo n hi : Int) (w : World) : Calls Tryz.prog 60 #[.int .i64 n, .int .i64 lo, .int .i64 hi] w fun e w' => e = .returned (.bool (bet lo n hi)) ∧ w' = w := by
  go_enter Tryz.func60, Tryz.ntmps60
  by_cases h : lo ≤ n
  · go_wp2_with fail
    exact bodyPost_ret (v := .bool (bet lo n hi)) (by simp [results, Tryz.results60, go_sem, bet, h]) rfl ⟨rfl, rfl⟩
  · go_wp2_with fail
    exact bodyPost_ret (v := .bool (bet lo n hi)) (by simp [results, Tryz.results60, go_sem, bet]; omega) rfl ⟨rfl, rfl⟩
theorem epoch_f (n : Int) (w : World) : Calls Tryz.prog 56 #[.int .i64 n] w fun e w' => e = .returned (.bool (bet 0 n 65535)) ∧ w' = w := by
  have H : Hid _ := between_f 0 n 65535
  go_enter Tryz.func56, Tryz.ntmps56
  go_wp2_with fail
  refine (H.out _).mono ?_
  rintro _ w1 ⟨rfl, rfl⟩
  go_wp2_with fail
  exact bodyPost_ret (v := .bool (bet 0 n 65535)) (by simp [results, Tryz.results56, go_sem]) rfl ⟨rfl, rfl⟩
theorem serial_f (n : Int) (w : World) : Calls Tryz.prog 57 #[.int .i64 n] w fun e w' => e = .returned (.bool (bet 0 n 4294967295)) ∧ w' = w := by
  have H : Hid _ := between_f 0 n 4294967295
  go_enter Tryz.func57, Tryz.ntmps57
  go_wp2_with fail
  refine (H.out _).mono ?_
  rintro _ w1 ⟨rfl, rfl⟩
  go_wp2_with fail
  exact bodyPost_ret (v := .bool (bet 0 n 4294967295)) (by simp [results, Tryz.results57, go_sem]) rfl ⟨rfl, rfl⟩
theorem class_f (n : Int) (w : World) : Calls Tryz.prog 58 #[.int .i64 n] w fun e w' => e = .returned (.bool (bet 0 n 255)) ∧ w' = w := by
  have H : Hid _ := between_f 0 n 255
  go_enter Tryz.func58, Tryz.ntmps58
  go_wp2_with fail
  refine (H.out _).mono ?_
  rintro _ w1 ⟨rfl, rfl⟩
  go_wp2_with fail
  exact bodyPost_ret (v := .bool (bet 0 n 255)) (by simp [results, Tryz.results58, go_sem]) rfl ⟨rfl, rfl⟩
end Tk
end Go.Proofs.YtbojijefenfbgaaGreatDoor
namespace Go.Proofs.YtbojijefenfbgaaGreatDoor
open Go Go.RowKit
namespace Qt
/-- One value. -/
def pu (v : Value) : Value → World → Prop := fun u _ => u = v
/-- What lasts, told in a list. -/
def rl (l : List (Value → World → Prop)) (j : Nat) : Value → World → Prop := l.getD j (fun _ _ => True)
def Lasts (r : Value → World → Prop) : Prop := ∀ u w w', r u w → Below w.heap.size w w' → r u w'
theorem pu_lasts (v : Value) : Lasts (pu v) := fun _ _ _ h _ => h
theorem rl_lasts {l : List (Value → World → Prop)} (h : ∀ r ∈ l, Lasts r) (j : Nat) (u : Value) (w w' : World) (hr : rl l j u w) (hb : Below w.heap.size w w') : rl l j u w' := by
  unfold rl at *
  rw [List.getD_eq_getElem?_getD] at *
  revert hr
  cases e : l[j]? with
  | none => intro _; trivial
  | some r =>
    intro hr
    exact h r (List.mem_of_getElem? e) u w w' hr hb
def LexS (P : Program) (ops : Array Oper) (W : World) (R : Nat → Value → World → Prop) (K : Act → World → Prop) : List Oper → Nat → (Nat → World → Prop) → Act → Prop
  | [], _, F, a => ∀ w', Below W.heap.size W w' → (∀ j, F j w') → K a w'
  | o :: l, k, F, a =>
    (∃ v, R k = pu v ∧ (∀ w', Below W.heap.size W w' → (∀ j, Region.waitsFor .any ops k j = true → F j w') → UponR P w' (pu v) ((execOp a.eval o).run P w')) ∧ LexS P ops W R K l (k + 1) F (a.put o.dst v)) ∨
    ((∀ w', Below W.heap.size W w' → (∀ j, Region.waitsFor .any ops k j = true → F j w') → UponR P w' (R k) ((execOp a.eval o).run P w')) ∧ ∀ u, LexS P ops W R K l (k + 1) (fun j w' => F j w' ∧ (j = k → R k u w')) (a.put o.dst u))
section
variable {P : Program} {ops : Array Oper} {W : World} {R : Nat → Value → World → Prop} {K : Act → World → Prop}
theorem lexS_at (U : Nat → Value) (l : List Oper) : ∀ (k : Nat) (F : Nat → World → Prop) (a : Act), LexS P ops W R K l k F a → ∃ V : Nat → Value, (∀ j, V j = U j ∨ R j = pu (V j)) ∧
    (∀ i o, l[i]? = some o → ∀ w', Below W.heap.size W w' → (∀ j, Region.waitsFor .any ops (k + i) j = true → F j w' ∧ (k ≤ j → R j (V j) w')) → UponR P w' (R (k + i)) ((execOp (fullA V (l.take i) k a).eval o).run P w')) ∧
    (∀ w', Below W.heap.size W w' → (∀ j, F j w' ∧ (k ≤ j → j < k + l.length → R j (V j) w')) → K (fullA V l k a) w') := by
  induction l with
  | nil =>
    intro k F a h
    exact ⟨U, fun j => .inl rfl, fun i o hi => by simp at hi, fun w' hw hF => h w' hw fun j => (hF j).1⟩
  | cons o l ih =>
    intro k F a h
    rcases h with ⟨v, hR, h1, h2⟩ | ⟨h1, h2⟩
    · obtain ⟨V, hV, hs, he⟩ := ih (k + 1) F _ h2
      have hc : ∀ (L : List Oper) b, fullA (fun j => if j = k then v else V j) L (k + 1) b = fullA V L (k + 1) b := fun L b => fullA_congr _ _ _ _ _ fun j hj _ => if_neg (by omega)
      refine ⟨fun j => if j = k then v else V j, fun j => ?_, fun i o' hi w' hw hF => ?_, fun w' hw hF => ?_⟩
      · by_cases e : j = k
        · subst e; right; simp only [if_pos]; exact hR
        · simp only [if_neg e]; exact hV j
      · rcases i with _ | i
        · obtain rfl : o = o' := by simpa using hi
          simp only [List.take_zero, fullA, Nat.add_zero]
          rw [hR]
          exact h1 w' hw fun j hj => (hF j hj).1
        · simp only [List.take_succ_cons, fullA, if_pos, hc]
          have := hs i o' (by simpa using hi) w' hw fun j hj => by
            rw [show k + 1 + i = k + (i + 1) by omega] at hj
            have := hF j hj
            refine ⟨this.1, fun hkj => ?_⟩
            have h3 := this.2 (by omega)
            simp only [if_neg (show ¬ j = k by omega)] at h3
            exact h3
          rw [show k + 1 + i = k + (i + 1) by omega] at this
          exact this
      · simp only [fullA, if_pos, hc]
        refine he w' hw fun j => ⟨(hF j).1, fun h3 h4 => ?_⟩
        have := (hF j).2 (by omega) (by simp; omega)
        simp only [if_neg (show ¬ j = k by omega)] at this
        exact this
    · obtain ⟨V, hV, hs, he⟩ := ih (k + 1) _ _ (h2 (U k))
      have hc : ∀ (L : List Oper) b, fullA (fun j => if j = k then U k else V j) L (k + 1) b = fullA V L (k + 1) b := fun L b => fullA_congr _ _ _ _ _ fun j hj _ => if_neg (by omega)
      refine ⟨fun j => if j = k then U k else V j, fun j => ?_, fun i o' hi w' hw hF => ?_, fun w' hw hF => ?_⟩
      · by_cases e : j = k
        · subst e; left; simp only [if_pos]
        · simp only [if_neg e]; exact hV j
      · rcases i with _ | i
        · obtain rfl : o = o' := by simpa using hi
          simp only [List.take_zero, fullA, Nat.add_zero]
          exact h1 w' hw fun j hj => (hF j hj).1
        · simp only [List.take_succ_cons, fullA, if_pos, hc]
          have := hs i o' (by simpa using hi) w' hw fun j hj => by
            rw [show k + 1 + i = k + (i + 1) by omega] at hj
            have := hF j hj
            refine ⟨⟨this.1, fun e => ?_⟩, fun hkj => ?_⟩
            · subst e
              have h3 := this.2 (Nat.le_refl _)
              simp only [if_pos] at h3
              exact h3
            · have h3 := this.2 (by omega)
              simp only [if_neg (show ¬ j = k by omega)] at h3
              exact h3
          rw [show k + 1 + i = k + (i + 1) by omega] at this
          exact this
      · simp only [fullA, if_pos, hc]
        refine he w' hw fun j => ⟨⟨(hF j).1, fun e => ?_⟩, fun h3 h4 => ?_⟩
        · subst e
          have := (hF j).2 (Nat.le_refl _) (by simp)
          simp only [if_pos] at this
          exact this
        · have := (hF j).2 (by omega) (by simp; omega)
          simp only [if_neg (show ¬ j = k by omega)] at this
          exact this
theorem s_nil {k : Nat} {F : Nat → World → Prop} {a : Act} (h : ∀ w', Below W.heap.size W w' → (∀ j, F j w') → K a w') : LexS P ops W R K [] k F a := h
theorem s_lex {k : Nat} {F : Nat → World → Prop} {a : Act} {o : Oper} {l : List Oper} (v : Value) (hR : R k = pu v) (h1 : Lex P W (fun a' => a' = a.put o.dst v) [o] a) (d : Tmp) (hd : o.dst = some d) (hsz : d < a.tmps.size) (h2 : LexS P ops W R K l (k + 1) F (a.put o.dst v)) : LexS P ops W R K (o :: l) k F a := by
  refine .inl ⟨v, hR, fun w' hw _ => ?_, h2⟩
  obtain ⟨v', hy, hk⟩ := h1
  have hk' : a.put o.dst v' = a.put o.dst v := hk
  have e : v' = v := by
    have := congrArg (fun b => b.eval (.tmp d)) hk'
    simpa [hd, Act.put, Act.eval, hsz] using this
  subst e
  exact yb_upon hy hw
theorem s_any {k : Nat} {F : Nat → World → Prop} {a : Act} {o : Oper} {l : List Oper} (h1 : ∀ w', Below W.heap.size W w' → (∀ j, Region.waitsFor .any ops k j = true → F j w') → UponR P w' (R k) ((execOp a.eval o).run P w'))
    (h2 : ∀ u, LexS P ops W R K l (k + 1) (fun j w' => F j w' ∧ (j = k → R k u w')) (a.put o.dst u)) : LexS P ops W R K (o :: l) k F a := .inr ⟨h1, h2⟩
theorem s_pu {k : Nat} {F : Nat → World → Prop} {a : Act} {o : Oper} {l : List Oper} (v : Value) (hR : R k = pu v) (h1 : ∀ w', Below W.heap.size W w' → (∀ j, Region.waitsFor .any ops k j = true → F j w') → UponR P w' (pu v) ((execOp a.eval o).run P w'))
    (h2 : LexS P ops W R K l (k + 1) F (a.put o.dst v)) : LexS P ops W R K (o :: l) k F a := .inl ⟨v, hR, h1, h2⟩
theorem upon_val {w' : World} {o : Oper} {a : Act} {v : Value} (h : (execOp a.eval o).run P w' = .ok (.value v) w') : UponR P w' (pu v) ((execOp a.eval o).run P w') := by
  rw [h]; exact ⟨rfl, Below.refl _ _⟩
theorem upon_call {w' : World} {o : Oper} {a : Act} {v : Value} (f : FuncId) (args : Array Value) (h : (execOp a.eval o).run P w' = .ok (.enter f args) w') (hc : Calls P f args w' fun e w'' => e = .returned v ∧ Below w'.heap.size w' w'') : UponR P w' (pu v) ((execOp a.eval o).run P w') := by
  rw [h]; exact Calls.mono hc fun e w'' ⟨he, hb⟩ => ⟨v, he, rfl, hb⟩
end
theorem wp_seqd {P : Program} {id : Nat} {Q : Exit → Act → World → Prop} {a : Act} {w : World} {l : List Oper} (n : Nat) (R : Nat → Value → World → Prop) (hm : P.follows .mixedOrders = true) (hB : relB l.toArray n = true) (hR : ∀ j u w w', R j u w → Below w.heap.size w w' → R j u w')
    (h : LexS P l.toArray w R (fun a' w' => wpList P l.toArray Q (l.drop n) a' w') (l.take n) 0 (fun _ _ => True) a) : (Code.region id l.toArray true).wp P Q a w := by
  have hB' := hB
  simp only [relB, Bool.and_eq_true, decide_eq_true_eq] at hB'
  obtain ⟨⟨⟨⟨⟨⟨hsel, hn⟩, hgd⟩, hs⟩, hc⟩, hdep⟩, hseq⟩ := hB'
  have hnl : n < l.length := by simpa using hn
  have htl : (l.take n).length = n := by simp; omega
  have hinfo : ∀ i, i < n → ∀ oi, l[i]? = some oi → (∀ e ∈ oi.after, e.on < i) ∧ ∀ j oj, j < n → l[j]? = some oj → ∀ d, oj.dst = some d → Region.waitsFor .any l.toArray i j = true ∨ d ∉ oi.looksAt l.toArray := by
    intro i hi oi hoi
    have h1 := List.all_eq_true.1 hdep i (List.mem_range.2 hi)
    have hoi' : l.toArray[i]? = some oi := by simpa using hoi
    rw [hoi'] at h1
    simp only [Bool.and_eq_true] at h1
    refine ⟨fun e he => by simpa using Array.all_eq_true_iff_forall_mem.1 h1.1 e he, fun j oj hj hoj d hd => ?_⟩
    have h2 := List.all_eq_true.1 h1.2 j (List.mem_range.2 hj)
    have hoj' : l.toArray[j]? = some oj := by simpa using hoj
    rw [hoj'] at h2
    simp only [hd, Bool.and_eq_true, Bool.or_eq_true, Bool.not_eq_true'] at h2
    refine h2.1.imp (fun h => h) fun h hm => ?_
    rw [List.contains_iff_mem.2 hm] at h
    cases h
  have hback : ∀ i, i < n → ∀ oi, l[i]? = some oi → ∀ j, Region.waitsFor .any l.toArray i j = true → j < i := by
    intro i hi oi hoi j hj
    obtain ⟨oj, hoj, e, he, _, hon⟩ := Region.waitsFor_spec hj
    have hoi' : l.toArray[i]? = some oi := by simpa using hoi
    obtain rfl : oj = oi := Option.some.inj (hoj.symm.trans hoi')
    rw [← hon]
    exact (hinfo i hi oj hoi).1 e he
  have hframe : ∀ U V i oi, i < n → l[i]? = some oi → (∀ j, j < n → Region.waitsFor .any l.toArray i j = true → U j = V j) → execOp (fullA U (l.take n) 0 a).eval oi = execOp (fullA V (l.take i) 0 a).eval oi := by
    intro U V i oi hi hoi hU
    refine execOp_congr oi (fun cs b => Region.noSelect_spec hsel i oi cs b (by simpa using hoi)) fun x hx => ?_
    have hlook : ∀ j oj, j < n → l[j]? = some oj → ∀ d, oj.dst = some d → x = .tmp d → Region.waitsFor .any l.toArray i j = true := by
      intro j oj hj hoj d hd hxd
      rcases (hinfo i hi oi hoi).2 j oj hj hoj d hd with h | h
      · exact h
      · exact absurd (by
          subst hxd
          exact List.mem_append_left _ (List.mem_filterMap.2 ⟨.tmp d, by simpa using hx, rfl⟩)) h
    have hsplit : l.take n = l.take i ++ (l.take n).drop i := by
      have h1 := (List.take_append_drop i (l.take n)).symm
      rw [List.take_take, Nat.min_eq_left (by omega)] at h1
      exact h1
    rw [hsplit, fullA_append, full_eval_out _ _ _ _ _ (fun o ho d hd hxd => by
      obtain ⟨j, hj⟩ := List.mem_iff_getElem?.1 ho
      rw [List.getElem?_drop] at hj
      have hjn : i + j < n := by
        have := (List.getElem?_eq_some_iff.1 hj).1
        simp at this
        omega
      rw [List.getElem?_take_of_lt hjn] at hj
      have hw := hlook (i + j) o hjn hj d hd hxd
      have := hback i hi oi hoi _ hw
      omega)]
    refine full_eval_congr U V x (l.take i) 0 a a rfl rfl fun j o hj d hd hxd => ?_
    have hji : j < i := by
      have := (List.getElem?_eq_some_iff.1 hj).1
      simp at this
      omega
    rw [List.getElem?_take_of_lt hji] at hj
    rw [Nat.zero_add]
    exact hU j (by omega) (hlook j o (by omega) hj d hd hxd)
  refine wp_rel n R hm hB hR (fun i o hi ho U w' hw' hU => ?_) (fun U w' hw' hU => ?_)
  · obtain ⟨V, hV, hst, _⟩ := lexS_at U (l.take n) 0 _ a h
    have hVU : ∀ j, j < n → Region.waitsFor .any l.toArray i j = true → U j = V j ∧ R j (V j) w' := fun j hj hwt => by
      rcases hV j with e | e
      · rw [e]; exact ⟨rfl, hU j hj hwt⟩
      · have := hU j hj hwt
        rw [e] at this
        have e2 : U j = V j := this
        rw [e]
        exact ⟨e2, rfl⟩
    rw [hframe U V i o hi ho fun j hj hwt => (hVU j hj hwt).1]
    have := hst i o (by rw [List.getElem?_take_of_lt hi]; exact ho) w' hw' fun j hj => by
      rw [Nat.zero_add] at hj
      exact ⟨trivial, fun _ => (hVU j (by have := hback i hi o ho j hj; omega) hj).2⟩
    rw [Nat.zero_add, List.take_take, Nat.min_eq_left (by omega)] at this
    exact this
  · obtain ⟨V, hV, _, hen⟩ := lexS_at U (l.take n) 0 _ a h
    have hVU : ∀ j, j < n → U j = V j ∧ R j (V j) w' := fun j hj => by
      rcases hV j with e | e
      · rw [e]; exact ⟨rfl, hU j hj⟩
      · have := hU j hj
        rw [e] at this
        have e2 : U j = V j := this
        rw [e]
        exact ⟨e2, rfl⟩
    rw [fullA_congr U V _ _ _ fun j _ hj => (hVU j (by rw [htl] at hj; omega)).1]
    exact hen w' hw' fun j => ⟨trivial, fun _ hj => (hVU j (by rw [htl] at hj; omega)).2⟩
end Qt
end Go.Proofs.YtbojijefenfbgaaGreatDoor
