/- Walk of posternkeep's raised. -/
/- Walk of posternkeep's Signed. -/
import Derived.Test.YtbojijefenfbgaaDoorSgKeepD
namespace Go.Proofs.YtbojijefenfbgaaDoor
open Go.RowKit
namespace Gw
open Fw Bt Ww Sw Cw Ed
theorem wrap64_id (x : Int) (h1 : 0 ≤ x) (h2 : x < 9223372036854775808) : wrap64 x = x := by
  unfold wrap64
  omega
theorem wrap3 (a b c : Nat) (ha : a < 256) (hb : b < 256) (hc : c ≤ 1) : wrap64 (wrap64 (wrap64 (a : Int) + wrap64 (b : Int)) + (c : Int)) = ((a + b + c : Nat) : Int) := by
  rw [wrap64_id (a : Int) (by omega) (by omega), wrap64_id (b : Int) (by omega) (by omega), wrap64_id ((a : Int) + b) (by omega) (by omega), wrap64_id _ (by omega) (by omega)]
  omega
set_option maxRecDepth 100000 in
set_option maxHeartbeats 1000000 in
theorem raised_f (s : List UInt8) (hs : s.length = 64) (w : World) : Calls Tryd.prog 19 #[.string ⟨s.toArray⟩] w fun e w' => e = .returned (.tuple #[.string ⟨(raisedL s).toArray⟩, .bool (decide (car s 32 = 0))]) ∧ Below w.heap.size w w' := by
  go_enter Tryd.func19, Tryd.ntmps19
  go_wp2_with (refine l_bytes rfl _ rfl s rfl ?_)
  intro w1 b cap hle hcap hB hb1
  have HB1 : Hid (Below w.heap.size w w1) := hb1
  have HM1 : Hid (BAt w1 b 64 (mB s 0)) := by
    show BAt _ _ _ _
    rw [show mB s 0 = fun j => (s[j]?.getD 0).toNat from funext fun j => by rw [mB_zero, List.getD_eq_getElem?_getD]]
    exact hB
  have HLE : Hid (w.heap.size ≤ b) := hle
  clear hB hb1 hle
  go_wp2_with fail
  generalize hLB : (⟨#[237, 211, 245, 92, 26, 99, 18, 88, 214, 156, 247, 162, 222, 249, 222, 20, 0, 0, 0, 0, 0, 0, 0, 0, 0, 0, 0, 0, 0, 0, 0, 16]⟩ : ByteArray) = LB
  have hsz : LB.size = 32 := by rw [← hLB]; rfl
  have HG : Hid (∀ k (h : k < LB.size), LB[k].toNat = (lS.getD k 0).toNat) := by
    intro k h
    have hk : k < lS.length := by rw [hsz] at h; exact h
    subst hLB
    show (lS.toArray[k]'(by simpa using hk)).toNat = _
    rw [List.getElem_toArray, List.getD_eq_getElem?_getD, List.getElem?_eq_getElem hk]
    rfl
  clear hLB
  go_loopw [6, 7] (fun c i wq => ∃ k : Nat, k ≤ 32 ∧ i = .int .i64 (k : Int) ∧ c = .int .i64 (car s k : Int) ∧ BAt wq b 64 (mB s k) ∧ Below w.heap.size w wq) (fun _ i _ => 32 - (intOf i).toNat)
  case atStart => exact ⟨0, by omega, rfl, rfl, HM1.out, HB1.out⟩
  case round =>
    clear HM1 HB1
    rename World => wa
    obtain ⟨k, hk, rfl, rfl, hm, hb⟩ := hrel
    have HM : Hid (BAt wa b 64 (mB s k)) := hm
    have HB : Hid (Below w.heap.size w wa) := hb
    clear hm hb
    by_cases hk32 : k < 32
    · obtain ⟨a, ha⟩ : ∃ a, a = (s.getD (32 + k) 0).toNat := ⟨_, rfl⟩
      obtain ⟨c, hc⟩ : ∃ c, c = car s k := ⟨_, rfl⟩
      have hc1 : wa.cell? ⟨b, 32 + k, none⟩ = some (.int .u8 (a : Int)) := by
        rw [HM.out.cell (32 + k) (by omega)]
        unfold mB
        rw [if_neg (by omega), ha]
      rw [← hc]
      have Ha : Hid (a = (s.getD (32 + k) 0).toNat) := ha
      have Hc : Hid (c = car s k) := hc
      clear ha hc
      go_wp2_with fail
      refine wp_region_quiet_lit (by kernel_rfl) (by kernel_rfl) ?_
      repeat (first | go_big_quiet_step (fail) | quiet_step (fail))
      refine wpQuiet_nil ?_
      intro _ hw'
      obtain ⟨nq, hw''⟩ := hw'
      subst hw''
      have ha2 : a < 256 := by rw [Ha.out]; exact (s.getD (32 + k) 0).toNat_lt
      have hc2 : c ≤ 1 := by rw [Hc.out]; exact car_le s k
      have hb2 : LB[k].toNat < 256 := LB[k].toNat_lt
      obtain ⟨x, hx⟩ : ∃ x, x = a + LB[k].toNat + c := ⟨_, rfl⟩
      have Hx : Hid (x = xS s (car s k) k) := by rw [hx, Ha.out, Hc.out, HG.out k (by rw [hsz]; exact hk32)]; rfl
      rw [wrap3 a LB[k].toNat c ha2 hb2 hc2, ← hx]
      have hx512 : x < 512 := by omega
      clear hx hc2 ha2 hb2
      generalize wrap64 (wrap64 (a : Int) + wrap64 (LB[k].toNat : Int)) = z1
      generalize wrap64 (LB[k].toNat : Int) = z2
      generalize (LB[k].toNat : Int) = z3
      generalize wrap64 (a : Int) = z4
      clear hc1
      have hc1 : (wa.drewN nq).cell? ⟨b, 32 + k, none⟩ = some (.int .u8 (mB s k (32 + k) : Int)) := HM.out.cell (32 + k) (by omega)
      have hfz : (wa.drewN nq).frozen? ⟨b, 32 + k, none⟩ = false := HM.out.frozen (32 + k) (by omega)
      have HM2 : Hid (BAt (wa.drewN nq) b 64 (mB s k)) := HM.out
      have HB2 : Hid (Below w.heap.size w (wa.drewN nq)) := below_drewN HB.out nq
      clear HM HB
      generalize wa.drewN nq = wb at *
      go_wp2_with fail
      refine ⟨⟨k + 1, by omega, by rw [Int.natCast_add]; rfl, ?_, ?_, ?_⟩, ?_⟩
      · rw [show car s (k + 1) = xS s (car s k) k / 256 from rfl, ← Hx.out]
        simp
      · rw [← mB_step, ← Hx.out]
        exact HM2.out.set (32 + k) (by omega) (x % 256)
      · exact HB2.out.setCell (p := ⟨b, 32 + k, none⟩) HLE.out _
      · show 32 - ((k : Int) + 1).toNat < 32 - (k : Int).toNat
        omega
    · obtain rfl : k = 32 := by omega
      have HC : Hid (∀ j (h : j < (raisedL s).length), wa.cell? ⟨b, 0 + j, none⟩ = some (.int .u8 ((raisedL s)[j].toNat : Int))) := by
        intro j hj
        rw [Nat.zero_add, raised_get]
        exact HM.out.cell j (by rw [raised_len] at hj; exact hj)
      go_wp2_with (refine Own.wpList_string_at _ rfl _ 38 9 5 rfl Tryd.underlying38 Tryd.underlying5 Tryd.underlying9 b 0 cap (raisedL s) (by rw [raised_len]; rfl) HC.out ?_)
      have ec : (((car s 32 : Nat) : Int) == 0) = decide (car s 32 = 0) := by
        by_cases h : car s 32 = 0
        · rw [h]; rfl
        · rw [decide_eq_false h, beq_eq_false_iff_ne]; omega
      rw [ec]
      exact bodyPost_ret (v := .tuple #[.string ⟨(raisedL s).toArray⟩, .bool (decide (car s 32 = 0))]) (by simp [results, Tryd.results19, go_sem]) rfl ⟨rfl, HB.out⟩
end Gw
end Go.Proofs.YtbojijefenfbgaaDoor
namespace Go.Proofs.YtbojijefenfbgaaDoor
open Go.RowKit
namespace Gw
open Fw Bt Ww Sw Cw Ed
theorem bits_xor_u8 (a b : Nat) (ha : a < 256) (hb : b < 256) : bits .xor .u8 (a : Int) (b : Int) = ((a ^^^ b : Nat) : Int) := by
  have hx : a ^^^ b < 2 ^ 8 := Nat.xor_lt_two_pow (by omega) (by omega)
  have h1 : (BitVec.ofInt 8 (a : Int)).toNat = a := by
    rw [BitVec.ofInt_natCast, BitVec.toNat_ofNat]; exact Nat.mod_eq_of_lt (by omega)
  have h2 : (BitVec.ofInt 8 (b : Int)).toNat = b := by
    rw [BitVec.ofInt_natCast, BitVec.toNat_ofNat]; exact Nat.mod_eq_of_lt (by omega)
  show IntKind.u8.wrap ((BitVec.ofInt 8 (a : Int) ^^^ BitVec.ofInt 8 (b : Int)).toNat : Int) = _
  rw [BitVec.toNat_xor, h1, h2, IntKind.wrap_u8]
  omega
theorem xor_other (a : Nat) (ha : a < 256) (y : Int) (_hy0 : 0 ≤ y) (_hy1 : y < 256) : ∃ v : UInt8, bits .xor .u8 (a : Int) (1 + y % 255) = (v.toNat : Int) ∧ v.toNat ≠ a := by
  obtain ⟨b, hb⟩ : ∃ b : Nat, 1 + y % 255 = (b : Int) := ⟨(1 + y % 255).toNat, by omega⟩
  have hb1 : b < 256 := by omega
  have hb0 : b ≠ 0 := by omega
  have hx : a ^^^ b < 2 ^ 8 := Nat.xor_lt_two_pow (by omega) (by omega)
  refine ⟨UInt8.ofNat (a ^^^ b), ?_, ?_⟩
  · rw [hb, bits_xor_u8 a b ha hb1, UInt8.toNat_ofNat', Nat.mod_eq_of_lt hx]
  · rw [UInt8.toNat_ofNat', Nat.mod_eq_of_lt hx]
    intro h
    have h2 : a ^^^ (a ^^^ b) = a ^^^ a := by rw [h]
    rw [← Nat.xor_assoc, Nat.xor_self, Nat.zero_xor] at h2
    exact hb0 h2
set_option maxRecDepth 100000 in
set_option maxHeartbeats 1000000 in
theorem signed_f (s t : List UInt8) (htl : t.length ≤ 900000000) (at_ : Int) (h1 : -9223372036854775808 ≤ at_) (h2 : at_ < 9223372036854775808) (by_ : Int) (hy0 : 0 ≤ by_) (hy1 : by_ < 256) (w : World) (ht : Hs.TabAt w) : Calls Tryd.prog 5 #[.string ⟨s.toArray⟩, .string ⟨t.toArray⟩, .int .i64 at_, .int .u8 by_] w fun e w' => e = .returned (.bool true) ∧ Below w.heap.size w w' := by
  have Hkn : Hid (∀ w, Hs.TabAt w → Calls Tryd.prog 15 #[] w fun e w' => e = .returned (.bool true) ∧ Below w.heap.size w w') := fun w ht => known_f w ht
  obtain ⟨sl, hsl⟩ : ∃ x, x = seedL s := ⟨_, rfl⟩
  have hll : sl.length = 32 := by rw [hsl]; exact seedL_len s
  have Hsd : Hid (∀ w, Calls Tryd.prog 16 #[.string ⟨s.toArray⟩] w fun e w' => e = .returned (.string ⟨sl.toArray⟩) ∧ Below w.heap.size w w') := by
    rw [hsl]
    exact fun w => seed_f s w
  obtain ⟨ky, hky⟩ : ∃ x, x = keyB sl := ⟨_, rfl⟩
  obtain ⟨sg, hsg⟩ : ∃ x, x = sigB sl t := ⟨_, rfl⟩
  have hkl : (ky.length : Int) = 32 := by rw [hky, key_eq, encP_len]; rfl
  have hsl64 : sg.length = 64 := by rw [hsg]; exact sig_len sl t
  have hsli : (sg.length : Int) = 64 := by omega
  have HkK : Hid (∀ w, Hs.TabAt w → Calls Tryd.prog 8 #[.string ⟨sl.toArray⟩] w fun e w' => e = .returned (.tuple #[.string ⟨ky.toArray⟩, .int .i64 0]) ∧ Below w.heap.size w w') := by
    rw [hky]
    exact fun w ht => pkey_f sl hll w ht
  have HsK : Hid (∀ w, Hs.TabAt w → Calls Tryd.prog 10 #[.string ⟨sl.toArray⟩, .string ⟨t.toArray⟩] w fun e w' => e = .returned (.tuple #[.string ⟨sg.toArray⟩, .int .i64 0]) ∧ Below w.heap.size w w') := by
    rw [hsg]
    exact fun w ht => psign_f sl t hll htl w ht
  have HrY : Hid (∀ w, Hs.TabAt w → Calls Tryd.prog 17 #[.string ⟨ky.toArray⟩, .string ⟨t.toArray⟩, .string ⟨sg.toArray⟩] w fun e w' => e = .returned (.bool true) ∧ Below w.heap.size w w') := by
    intro w ht
    have h := pright_f ky t sg htl w ht
    rw [hky, hsg, right_sig base_order, ← hky, ← hsg] at h
    exact h
  have HrT : Hid (∀ (i : Nat) (v : UInt8), i < 32 → v ≠ sg.getD (32 + i) 0 → ∀ w, Hs.TabAt w → Calls Tryd.prog 17 #[.string ⟨ky.toArray⟩, .string ⟨t.toArray⟩, .string ⟨(sg.set (32 + i) v).toArray⟩] w fun e w' => e = .returned (.bool false) ∧ Below w.heap.size w w') := by
    intro i v hi hv w ht
    have h := pright_f ky t (sg.set (32 + i) v) htl w ht
    rw [hky, hsg, turned_not i hi v (by rw [← hsg]; exact hv), ← hky, ← hsg] at h
    exact h
  obtain ⟨rs, hrs⟩ : ∃ x, x = raisedL sg := ⟨_, rfl⟩
  obtain ⟨ft, hft⟩ : ∃ x, x = decide (car sg 32 = 0) := ⟨_, rfl⟩
  have Hra : Hid (∀ w, Calls Tryd.prog 19 #[.string ⟨sg.toArray⟩] w fun e w' => e = .returned (.tuple #[.string ⟨rs.toArray⟩, .bool ft]) ∧ Below w.heap.size w w') := by
    rw [hrs, hft]
    exact fun w => raised_f sg hsl64 w
  have HrH : Hid (ft = true → ∀ w, Hs.TabAt w → Calls Tryd.prog 17 #[.string ⟨ky.toArray⟩, .string ⟨t.toArray⟩, .string ⟨rs.toArray⟩] w fun e w' => e = .returned (.bool false) ∧ Below w.heap.size w w') := by
    intro hf w ht
    have h := pright_f ky t rs htl w ht
    rw [hft, decide_eq_true_eq] at hf
    rw [hrs, raised_not ky t sg hsl64 hf, ← hrs] at h
    exact h
  have Hpk : Hid (∀ w, Calls Tryd.prog 18 #[.int .i64 at_, .int .i64 32] w fun e w' => ∃ i : Nat, i < 32 ∧ e = .returned (.int .i64 (i : Int)) ∧ w' = w) := fun w => pick_f at_ h1 h2 w
  clear hsl hky hsg hrs hft h1 h2
  have Ht : Hid (Hs.TabAt w) := ht
  clear ht
  go_enter Tryd.func5, Tryd.ntmps5
  go_wp2_with fail
  refine (Hkn.out w Ht.out).mono ?_
  rintro e w1 ⟨rfl, hb1⟩
  have HB1 : Hid (Below w.heap.size w w1) := hb1
  clear hb1
  go_wp2_with fail
  refine (Hsd.out _).mono ?_
  rintro e w2 ⟨rfl, hb2⟩
  have HB2 : Hid (Below w.heap.size w w2) := HB1.out.trans (hb2.mono HB1.out.size)
  clear hb2 HB1
  go_wp2_with fail
  refine (HkK.out _ (Ht.out.below HB2.out Ht.out.lt)).mono ?_
  rintro e w3 ⟨rfl, hb3⟩
  have HB3 : Hid (Below w.heap.size w w3) := HB2.out.trans (hb3.mono HB2.out.size)
  clear hb3 HB2
  go_wp2_with fail
  refine (Hsd.out _).mono ?_
  rintro e w4 ⟨rfl, hb4⟩
  have HB4 : Hid (Below w.heap.size w w4) := HB3.out.trans (hb4.mono HB3.out.size)
  clear hb4 HB3
  go_wp2_with fail
  refine (HsK.out _ (Ht.out.below HB4.out Ht.out.lt)).mono ?_
  rintro e w5 ⟨rfl, hb5⟩
  have HB5 : Hid (Below w.heap.size w w5) := HB4.out.trans (hb5.mono HB4.out.size)
  clear hb5 HB4
  go_wp2_with fail
  refine (HrY.out _ (Ht.out.below HB5.out Ht.out.lt)).mono ?_
  rintro e w6 ⟨rfl, hb6⟩
  have HB6 : Hid (Below w.heap.size w w6) := HB5.out.trans (hb6.mono HB5.out.size)
  clear hb6 HB5
  go_wp2_with fail
  refine (Hsd.out _).mono ?_
  rintro e w7 ⟨rfl, hb7⟩
  have HB7 : Hid (Below w.heap.size w w7) := HB6.out.trans (hb7.mono HB6.out.size)
  clear hb7 HB6
  go_wp2_with fail
  refine (HsK.out _ (Ht.out.below HB7.out Ht.out.lt)).mono ?_
  rintro e w8 ⟨rfl, hb8⟩
  have HB8 : Hid (Below w.heap.size w w8) := HB7.out.trans (hb8.mono HB7.out.size)
  clear hb8 HB7
  go_wp2_with (refine l_bytes rfl _ rfl sg rfl ?_)
  intro w9 b cap hle hcap hB hb9
  have HB9 : Hid (Below w.heap.size w w9) := HB8.out.trans (hb9.mono HB8.out.size)
  have HM : Hid (BAt w9 b 64 (fun j => (sg.getD j 0).toNat)) := by
    show BAt _ _ _ _
    rw [show (fun j => (sg.getD j 0).toNat) = fun j => (sg[j]?.getD 0).toNat from funext fun j => by rw [List.getD_eq_getElem?_getD]]
    exact hB
  have HLE : Hid (w.heap.size ≤ b) := Nat.le_trans HB8.out.size hle
  clear hB hb9 hle HB8
  go_wp2_with fail
  refine (Hpk.out _).mono ?_
  rintro e w10 ⟨i, hi, rfl, rfl⟩
  obtain ⟨x, hx⟩ : ∃ x, x = (sg.getD (32 + i) 0).toNat := ⟨_, rfl⟩
  have hc1 : w10.cell? ⟨b, 32 + i, none⟩ = some (.int .u8 (x : Int)) := by
    rw [hx]
    exact HM.out.cell (32 + i) (by omega)
  have hfz : w10.frozen? ⟨b, 32 + i, none⟩ = false := HM.out.frozen (32 + i) (by omega)
  have Hx : Hid (x = (sg.getD (32 + i) 0).toNat) := hx
  clear hx
  have hx256 : x < 256 := by rw [Hx.out]; exact UInt8.toNat_lt _
  obtain ⟨v, hv, hvx⟩ := xor_other x hx256 by_ hy0 hy1
  have HM2 : Hid (BAt (w10.setCell ⟨b, 32 + i, none⟩ (.int .u8 (v.toNat : Int))) b 64 (fun j => if j = 32 + i then v.toNat else (sg.getD j 0).toNat)) := HM.out.set (32 + i) (by omega) v.toNat
  have HB10 : Hid (Below w.heap.size w (w10.setCell ⟨b, 32 + i, none⟩ (.int .u8 (v.toNat : Int)))) := HB9.out.setCell (p := ⟨b, 32 + i, none⟩) HLE.out _
  rw [← hv] at HM2 HB10
  have hvg : v ≠ sg.getD (32 + i) 0 := fun h => hvx (by rw [Hx.out, h])
  have HrT1 : Hid _ := HrT.out i v hi hvg
  clear HrT hvg hvx
  obtain ⟨tn, htn⟩ : ∃ x, x = sg.set (32 + i) v := ⟨_, rfl⟩
  have htl2 : tn.length = 64 := by rw [htn, List.length_set]; exact hsl64
  have HC : Hid (∀ j (h : j < tn.length), (w10.setCell ⟨b, 32 + i, none⟩ (.int .u8 (bits .xor .u8 (x : Int) (1 + by_ % 255)))).cell? ⟨b, 0 + j, none⟩ = some (.int .u8 (tn[j].toNat : Int))) := by
    intro j hj
    rw [Nat.zero_add, HM2.out.cell j (by omega)]
    subst htn
    rw [List.getElem_set]
    by_cases e : j = 32 + i
    · rw [if_pos e, if_pos e.symm]
    · rw [if_neg e, if_neg (Ne.symm e), List.getD_eq_getElem?_getD, List.getElem?_eq_getElem (by omega)]
      rfl
  rw [← htn] at HrT1
  clear htn hv HM2
  go_wp2_with (refine Own.wpList_string_at _ rfl _ 38 9 5 rfl Tryd.underlying38 Tryd.underlying5 Tryd.underlying9 b 0 cap tn (by rw [htl2]; rfl) HC.out ?_)
  refine (HrT1.out _ (Ht.out.below HB10.out Ht.out.lt)).mono ?_
  rintro e w11 ⟨rfl, hb11⟩
  have HB11 : Hid (Below w.heap.size w w11) := HB10.out.trans (hb11.mono HB10.out.size)
  clear hb11 HB10 HM HC hc1 hfz
  go_wp2_with fail
  refine (Hra.out _).mono ?_
  rintro e w12 ⟨rfl, hb12⟩
  have HB12 : Hid (Below w.heap.size w w12) := HB11.out.trans (hb12.mono HB11.out.size)
  clear hb12 HB11
  cases ft with
  | false =>
    go_wp2_with fail
    exact bodyPost_ret (v := .bool true) (by simp [results, Tryd.results5, go_sem]) rfl ⟨rfl, HB12.out⟩
  | true =>
    go_wp2_with fail
    refine (HrH.out trivial _ (Ht.out.below HB12.out Ht.out.lt)).mono ?_
    rintro e w13 ⟨rfl, hb13⟩
    have HB13 : Hid (Below w.heap.size w w13) := HB12.out.trans (hb13.mono HB12.out.size)
    clear hb13 HB12
    go_wp2_with fail
    exact bodyPost_ret (v := .bool true) (by simp [results, Tryd.results5, go_sem]) rfl ⟨rfl, HB13.out⟩
end Gw
end Go.Proofs.YtbojijefenfbgaaDoor
