/- Walks of the program's hash: Of; and of the call Hash. -/
import Derived.Test.YtkmpokneflgmbaaDoorSumWalk
namespace Go.Proofs.YtkmpokneflgmbaaDoor
open Go.RowKit
namespace Hs
attribute [local go_sem] UV.u_add UV.u_mul UV.u_sub UV.u_xor UV.u_and UV.u_or UV.u_shr UV.u_shl UV.u_not UV.u_notm UV.u_wrap_un

def joined (l : List ByteArray) : List UInt8 := l.flatMap (fun s => s.data.toList)
theorem joined_step (ss : List ByteArray) (k : Nat) (h : k < ss.length) : joined (ss.take (k + 1)) = joined (ss.take k) ++ ss[k].data.toList := by
  unfold joined
  rw [List.take_succ_eq_append_getElem h, List.flatMap_append]
  simp
theorem joined_le (ss : List ByteArray) (k : Nat) : (joined (ss.take k)).length ≤ (joined ss).length := by
  unfold joined
  conv => rhs; rw [← List.take_append_drop k ss, List.flatMap_append, List.length_append]
  omega
theorem len_add (n m : Nat) (hn : n ≤ 1000000000000) (hm : m ≤ 1000000000000) : IntKind.u64.wrap (un (BitVec.ofNat 64 n) + (m : Int)) = un (BitVec.ofNat 64 (n + m)) := by
  rw [UV.un_ofNat _ (by omega), UV.un_ofNat _ (by omega), IntKind.wrap_u64]
  omega

/-- Where the strings of a slice lie. -/
def Parts (w : World) (a0 : Option Addr) (ss : List ByteArray) : Prop := ss = [] ∨ ∃ pb po, a0 = some ⟨pb, po, none⟩ ∧ ∀ j (h : j < ss.length), w.cell? ⟨pb, po + j, none⟩ = some (.string ss[j])

set_option maxHeartbeats 2000000 in
set_option maxRecDepth 100000 in
theorem of_any (w : World) (a0 : Option Addr) (cap : Nat) (ss : List ByteArray) (hp : Parts w a0 ss) (htab : TabAt w) (hsz : (joined ss).length ≤ 1000000000) (hn : ss.length ≤ 1000000000) :
    Calls Tryd.prog 25 #[.slice a0 ss.length cap] w fun e w' => e = .returned (.string ⟨(Sha.sha (joined ss)).toArray⟩) ∧ Below w.heap.size w w' := by
  have HP : Hid _ := hp
  have HT : Hid _ := htab
  have h0l := htab.lt
  clear hp htab
  go_enter Tryd.func25, Tryd.ntmps25
  go_wp2_with (first
    | (go_at_call 37; refine (start_any _).mono ?_; rintro e w1 ⟨rfl, hb1⟩; have HB1 : Hid _ := hb1; clear hb1)
    | refine Own.wpList_alloc_at _ rfl 69 rfl zeroRow (by kernel_rfl) ?_
    | refine Own.wpList_store_new rfl 69 _ _ rfl zeroRow startRow 69 rfl rfl (by kernel_rfl) (by kernel_rfl) startRow_one ?_)
  have hs1 : w.heap.size ≤ w1.heap.size := HB1.out.size
  have hb0 : w1.heap.size ≠ 0 := by omega
  go_loopw [4, 10] (fun l i wq => ∃ k : Nat, k ≤ ss.length ∧ i = .int .i64 (k : Int) ∧ l = .int .u64 (un (BitVec.ofNat 64 (joined (ss.take k)).length)) ∧ Below w.heap.size w wq ∧ Taken wq w1.heap.size (joined (ss.take k))) (fun _ i _ => ss.length - (intOf i).toNat)
  case atStart => exact ⟨0, by omega, rfl, rfl, HB1.out.alloc hs1 _, Sha.start, fun _ => 0, 0, heap_alloc_new _ _, Tk.start _⟩
  case round =>
    rename World => wa
    obtain ⟨k, hk, rfl, rfl, hb, ht⟩ := hrel
    have HB : Hid _ := hb
    have HK : Hid _ := ht
    clear hb ht
    by_cases hkn : k < ss.length
    · have hjs := joined_step ss k hkn
      have hle := joined_le ss (k + 1)
      rw [hjs, List.length_append] at hle
      have hl2 : ss[k].data.toList.length = ss[k].size := by simp
      rw [hl2] at hle
      have HJ : Hid _ := hjs
      have HL2 : Hid _ := hl2
      clear hjs hl2
      rcases HP.out with h2 | ⟨pb, po, rfl, hcs⟩
      · rw [h2] at hkn; exact absurd hkn (by simp)
      · have hc := hcs k hkn
        have hlt := block_lt_of_cell hc
        have hc' : wa.cell? ⟨pb, po + k, none⟩ = some (.string ss[k]) := (HB.out.cell (p := ⟨pb, po + k, none⟩) hlt).trans hc
        clear hc hcs hlt
        have hadd := len_add (joined (ss.take k)).length ss[k].size (by omega) (by omega)
        generalize ss[k] = part at *
        go_wp2_with (first
          | (go_at_call 38; refine (take_any _ w1.heap.size _ part HK.out hb0 (TabAt.below HT.out HB.out h0l) (by omega)).mono ?_; rintro e w2 ⟨rfl, ho2, ht2⟩; have HO2 : Hid _ := ho2; have HT2 : Hid _ := ht2; clear ho2 ht2))
        exact ⟨⟨k + 1, by omega, by go_num, by rw [HJ.out, List.length_append, HL2.out], HB.out.trans (HO2.out.below _ (by omega) HB.out.size), by rw [HJ.out]; exact HT2.out⟩, by simp [intOf]; omega⟩
    · obtain rfl : k = ss.length := by omega
      have HK2 : Hid (Taken wa w1.heap.size (joined ss)) := by have := HK.out; rwa [List.take_length] at this
      go_wp2_with fail
      refine (finish_any _ w1.heap.size (joined ss) HK2.out hb0 (TabAt.below HT.out HB.out h0l) (by omega)).mono ?_
      rintro e w2 ⟨rfl, ho2, bs2, m2, hs2⟩
      have HO2 : Hid _ := ho2
      have HS2 : Hid _ := hs2
      clear ho2 hs2
      go_wp2_with (first
        | (go_at_call 40; refine (sum_any _ w1.heap.size _ bs2 m2 HS2.out).mono ?_; rintro e w3 ⟨rfl, hb3⟩; have HB3 : Hid _ := hb3; clear hb3))
      go_ret
      have hb2 := HB.out.trans (HO2.out.below _ hs1 HB.out.size)
      exact ⟨rfl, hb2.trans (HB3.out.mono hb2.size)⟩

set_option maxHeartbeats 400000 in
theorem hash_any (w : World) (a0 : Option Addr) (cap : Nat) (ss : List ByteArray) (hp : Parts w a0 ss) (htab : TabAt w) (hsz : (joined ss).length ≤ 1000000000) (hn : ss.length ≤ 1000000000) :
    Calls Tryd.prog 7 #[.slice a0 ss.length cap] w fun e w' => e = .returned (.string ⟨(Sha.sha (joined ss)).toArray⟩) ∧ Below w.heap.size w w' := by
  have HP : Hid _ := hp
  have HT : Hid _ := htab
  clear hp htab
  go_enter Tryd.func7, Tryd.ntmps7
  go_wp2_with (go_at_call 25; refine (of_any _ a0 cap ss HP.out HT.out hsz hn).mono ?_; rintro e w1 ⟨rfl, hb1⟩; have HB1 : Hid _ := hb1; clear hb1)
  go_ret
  exact ⟨rfl, HB1.out⟩
end Hs
end Go.Proofs.YtkmpokneflgmbaaDoor
