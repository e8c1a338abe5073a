/- Walks of the program's hash: finish, sum, start. -/
import Derived.Test.YtkmpokneflgmbaaDoorTakeWalk
import Derived.Deep.RegionWith
namespace Go.Proofs.YtkmpokneflgmbaaDoor
open Go.RowKit
namespace Hs
attribute [local go_sem] UV.u_add UV.u_mul UV.u_sub UV.u_xor UV.u_and UV.u_or UV.u_shr UV.u_shl UV.u_not UV.u_notm UV.u_wrap_un

theorem put_state (s : Sha.St) (bs : Nat → UInt8) (m p : Nat) (x : BitVec 64) (h : p + 8 ≤ 128) : Own.mkRow 137 (putF (stF s bs m) (8 + p) x 8) = Own.mkRow 137 (stF s (over bs p 8 (Sha.bytesOf x)) m) := by
  refine Own.mkRow_congr (fun j hj => ?_)
  unfold putF stF over
  by_cases h8 : j < 8
  · rw [if_neg (by omega), if_pos h8, if_pos h8]
  · rw [if_neg h8, if_neg h8]
    by_cases h136 : j < 136
    · rw [if_pos h136, if_pos h136]
      by_cases hin : 8 + p ≤ j ∧ j < 8 + p + 8
      · rw [if_pos hin, if_pos (by omega), List.getD_eq_getElem?_getD, List.getElem?_eq_getElem (show j - 8 - p < (Sha.bytesOf x).length by rw [Sha.bytesOf_length]; omega), Option.getD_some, bytesOf_get, show j - (8 + p) = j - 8 - p by omega]
      · rw [if_neg hin, if_neg (by omega)]
    · rw [if_neg h136, if_neg h136, if_neg (by omega)]
theorem over_over (bs : Nat → UInt8) (x y : BitVec 64) : over (over bs 112 8 (Sha.bytesOf x)) 120 8 (Sha.bytesOf y) = over bs 112 16 (Sha.bytesOf x ++ Sha.bytesOf y) := by
  funext i
  unfold over
  by_cases h1 : 120 ≤ i ∧ i < 120 + 8
  · rw [if_pos h1, if_pos (by omega)]
    simp only [List.getD_eq_getElem?_getD]
    rw [List.getElem?_append_right (by rw [Sha.bytesOf_length]; omega), Sha.bytesOf_length, show i - 112 - 8 = i - 120 by omega]
  · rw [if_neg h1]
    by_cases h2 : 112 ≤ i ∧ i < 112 + 8
    · rw [if_pos h2, if_pos (by omega)]
      simp only [List.getD_eq_getElem?_getD]
      rw [List.getElem?_append_left (by rw [Sha.bytesOf_length]; omega)]
    · rw [if_neg h2, if_neg (by omega)]
theorem padded_as (t : List UInt8) (z : Nat) (hz : z + 8 = Sha.gap t.length) (hi lo : BitVec 64) (h1 : hi = 0#64) (h2 : lo = BitVec.ofNat 64 (8 * t.length)) :
    t ++ [128] ++ List.replicate z 0 ++ (Sha.bytesOf hi ++ Sha.bytesOf lo).take 16 = Sha.padded t := by
  subst h1 h2
  have e : Sha.bytesOf 0#64 = List.replicate 8 0 := by decide
  rw [List.take_of_length_le (by simp [Sha.bytesOf_length]), e]
  unfold Sha.padded
  rw [← hz, ← List.replicate_append_replicate]
  simp only [List.append_assoc]
def leftOf : Option Value → Nat
  | some (.int _ v) => ((240 - v) % 128).toNat
  | _ => 0
theorem len_shr (n : Nat) (h : n ≤ 1000000000000) : BitVec.ofNat 64 n >>> 61 = 0#64 := by
  apply BitVec.eq_of_toNat_eq
  rw [BitVec.toNat_ushiftRight, BitVec.toNat_ofNat, Nat.shiftRight_eq_div_pow]
  simp
  omega
theorem len_shl (n : Nat) (_h : n ≤ 1000000000000) : BitVec.ofNat 64 n <<< 3 = BitVec.ofNat 64 (8 * n) := by
  apply BitVec.eq_of_toNat_eq
  rw [BitVec.toNat_shiftLeft, BitVec.toNat_ofNat, BitVec.toNat_ofNat, Nat.shiftLeft_eq]
  omega
theorem stF_byte (s : Sha.St) (bs : Nat → UInt8) (m j : Nat) (h1 : 8 ≤ j) (h2 : j < 136) : ∃ v : Int, stF s bs m j = .int .u8 v := ⟨_, by unfold stF; rw [if_neg (by omega), if_pos h2]⟩

set_option maxHeartbeats 2000000 in
set_option maxRecDepth 100000 in
theorem finish_any (w : World) (b : Nat) (t : List UInt8) (h : Taken w b t) (hb0 : b ≠ 0) (htab : TabAt w) (hsz : t.length ≤ 1000000000000) :
    Calls Tryd.prog 39 #[.pointer (some ⟨b, 0, none⟩), .int .u64 (un (BitVec.ofNat 64 t.length))] w fun e w' => e = .returned (.tuple #[]) ∧ Only b w w' ∧ ∃ bs m, StateAt w' b (Sha.chain (Sha.padded t) ((Sha.padded t).length / 128)) bs m := by
  have HH : Hid _ := h
  have HT : Hid _ := htab
  clear h htab
  have hg : Sha.gap t.length ≤ 135 ∧ 8 ≤ Sha.gap t.length ∧ (t.length + 1 + (Sha.gap t.length - 8)) % 128 = 112 := by unfold Sha.gap; omega
  obtain ⟨hg1, hg2, hg3⟩ := hg
  generalize hgg : Sha.gap t.length = gp at *
  have HG : Hid _ := hgg
  clear hgg
  go_enter Tryd.func39, Tryd.ntmps39
  go_wp2_with (first
    | (go_at_call 38; refine (take_any _ b t ⟨#[128]⟩ HH.out hb0 HT.out (by decide)).mono ?_; rintro e w1 ⟨rfl, ho1, ht1⟩; have HO1 : Hid _ := ho1; have HT1 : Hid _ := ht1; clear ho1 ht1))
  go_loopw [6] (fun _ wq => ∃ z : Nat, z + 8 ≤ gp ∧ Only b w wq ∧ Taken wq b (t ++ [128] ++ List.replicate z 0)) (fun _ wq => leftOf (wq.cell? ⟨b, 136, none⟩))
  case atStart => exact ⟨0, by omega, HO1.out, by rw [List.replicate_zero, List.append_nil]; exact HT1.out⟩
  case round =>
    clear HO1 HT1
    rename World => wa
    obtain ⟨z, hz, ho, s, bs, m, hst, htk⟩ := hrel
    have HO : Hid _ := ho
    have HS : Hid _ := hst
    have HK : Hid _ := htk
    have hm : m = (t.length + 1 + z) % 128 := by have := htk.2.1; simp only [List.length_append, List.length_replicate, List.length_cons, List.length_nil] at this; omega
    clear ho hst htk
    have hfil := st_filled HS.out
    by_cases hne : m = 112
    · have hz8 : z + 8 = gp := by omega
      subst hne
      clear hm hg3
      have hsl1 := fun W => slice128 W b 8 112 112 rfl (by decide)
      have hsl2 := fun W => slice128 W b 8 120 120 rfl (by decide)
      have hx1 : un (BitVec.ofNat 64 t.length) / (2305843009213693952 : Int) = un 0#64 := by rw [← len_shr t.length hsz]; exact UV.u_shr _ 61
      have hx2 : IntKind.u64.wrap (un (BitVec.ofNat 64 t.length) * 8) = un (BitVec.ofNat 64 (8 * t.length)) := by rw [← len_shl t.length hsz]; exact UV.u_shl _ 3
      have HF : ∀ (bs : Nat → UInt8) (o : Nat), 8 ≤ o → o + 8 ≤ 136 → ∀ j, o ≤ j → j < o + 8 → ∃ v : Int, stF s bs 112 j = .int .u8 v := fun bs o h1 h2 j h3 h4 => stF_byte s bs 112 j (by omega) (by omega)
      have HF' : Hid _ := HF
      clear HF
      go_wp2_with (first
        | (go_at_call_of 63 (Value.int IntKind.u64 (un 0#64)); refine (putWord_any _ b 120 _ _ 137 (stF s bs 112) 69 0#64 (by decide) (by decide) (by decide) (by decide) (HF'.out bs 120 (by decide) (by decide)) HS.out).mono ?_; rintro e w2 ⟨rfl, ho2, hr2⟩; rw [put_state s bs 112 112 _ (by decide)] at hr2; have HO2 : Hid _ := ho2; have HR2 : Hid _ := hr2; clear ho2 hr2))
      refine (putWord_any _ b 128 _ _ 137 (stF s (over bs 112 8 (Sha.bytesOf 0#64)) 112) 69 (BitVec.ofNat 64 (8 * t.length)) (by decide) (by decide) (by decide) (by decide) (HF'.out _ 128 (by decide) (by decide)) HR2.out).mono ?_
      rintro e w3 ⟨rfl, ho3, hr3⟩
      rw [put_state s _ 112 120 _ (by decide), over_over] at hr3
      have HO3 : Hid _ := ho3
      have HR3 : Hid _ := hr3
      clear ho3 hr3
      have HO4 : Hid (Only b w w3) := (HO.out.trans HO2.out).trans HO3.out
      go_wp2_with (first
        | (go_at_call 62; refine (mix_any _ b s (over bs 112 16 (Sha.bytesOf 0#64 ++ Sha.bytesOf (BitVec.ofNat 64 (8 * t.length)))) 112 HR3.out hb0 (TabAt.only HT.out HO4.out hb0)).mono ?_; rintro e w5 ⟨rfl, ho5, hs5⟩; have HO5 : Hid _ := ho5; have HS5 : Hid _ := hs5; clear ho5 hs5))
      go_end0
      refine ⟨rfl, HO4.out.trans HO5.out, over bs 112 16 (Sha.bytesOf 0#64 ++ Sha.bytesOf (BitVec.ofNat 64 (8 * t.length))), 112, ?_⟩
      have hfull := Tk.full HK.out (Sha.bytesOf 0#64 ++ Sha.bytesOf (BitVec.ofNat 64 (8 * t.length))) 16 (by simp [Sha.bytesOf_length]) (by omega)
      rw [padded_as t z (by rw [HG.out]; exact hz8) _ _ rfl rfl] at hfull
      rw [← hfull.1]
      exact HS5.out
    · have hne' : ((m : Int) != 112) = true := by rw [bne_iff_ne]; omega
      go_wp2_with (first
        | (go_at_call 38; refine (take_any _ b (t ++ [128] ++ List.replicate z 0) ⟨#[0]⟩ ⟨s, bs, m, HS.out, HK.out⟩ hb0 (TabAt.only HT.out HO.out hb0) (by decide)).mono ?_; rintro e w2 ⟨rfl, ho2, ht2⟩; have HO2 : Hid _ := ho2; have HT2 : Hid _ := ht2; clear ho2 ht2))
      refine ⟨⟨z + 1, by omega, HO.out.trans HO2.out, by rw [List.replicate_succ', ← List.append_assoc]; exact HT2.out⟩, ?_⟩
      obtain ⟨s2, bs2, m2, hs2, hk2⟩ := HT2.out
      have hm2 : m2 = (t.length + 1 + z + 1) % 128 := by
        have := hk2.2.1
        simp only [List.length_append, List.length_replicate, List.length_cons, List.length_nil, show (ByteArray.mk #[0]).data.toList.length = 1 from rfl] at this
        omega
      rw [hfil, st_filled hs2]
      show ((240 - (m2 : Int)) % 128).toNat < ((240 - (m : Int)) % 128).toNat
      omega
end Hs
end Go.Proofs.YtkmpokneflgmbaaDoor
