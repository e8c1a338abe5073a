/- Walk of the program's hash: mix. -/
import Derived.Test.YtbojijefenfbgaaGreatDoorTtHashWalks
namespace Go.Proofs.YtbojijefenfbgaaGreatDoor
open Go.RowKit
namespace Hs
attribute [local go_sem] UV.z6q UV.z5u UV.z6r UV.z6s UV.z4x UV.y1w UV.z3z UV.z4m UV.z5v UV.z3n UV.z1c
theorem z8i (W : World) (f : Nat → Value) (k : Nat) (hk : k < 8) :
  Sem.run Tryz.prog (Instr.index 177 (.agg (Own.z0f 8 f)) (.int .i64 (k : Int))) W = .ok (f k) W := by
 have h1 : (0 : Int) ≤ (k : Int) ∧ (k : Int) < ((8 : Nat) : Int) := by omega
 obtain ⟨i, hi, _, hz1, _⟩ := info_parts (show (Tryz.prog.info? 159).map (fun i => (i.zero, i.size, i.bytes)) = some (some (.int .u64 0), 1, 8) by kernel_rfl)
 have hg : (Own.z0f 8 f)[k]? = some (f k) := Own.z1f hk
 simp [Instr.index, asIntOf, run_underlying Tryz.underlying177, h1, sizeOf, typeInfo, hi, hz1, part, isAgg, run_underlying Tryz.underlying159, hg, hk]
theorem k7b (x : BitVec 64) : bits .xor .u64 (if IntKind.u64.signed = true then -1 else IntKind.u64.max) (un x) = un (~~~ x) := UV.z3n x
attribute [local go_sem] k7b
def z8s (s : Sha.St) (j : Nat) : Value := .int .u64 (un (s.list.getD j 0#64))
def x5h (c s : Sha.St) (k j : Nat) : BitVec 64 := if j < k then c.list.getD j 0#64 + s.list.getD j 0#64 else c.list.getD j 0#64
def stG (g : Nat → BitVec 64) (bs : Nat → UInt8) (m : Nat) (j : Nat) : Value :=
 if j < 8 then .int .u64 (un (g j)) else if j < 136 then .int .u8 ((bs (j - 8)).toNat : Int) else .int .i64 (m : Int)
theorem x9j (c s : Sha.St) (bs : Nat → UInt8) (m : Nat) : Own.z0f 137 (stF c bs m) = Own.z0f 137 (stG (x5h c s 0) bs m) := by
 refine Own.z0k (fun j hj => ?_)
 unfold stF stG x5h
 by_cases h : j < 8
 ·rw [if_pos h, if_pos h, if_neg (by omega)]
 ·rw [if_neg h, if_neg h]
theorem q4q (c s : Sha.St) (bs : Nat → UInt8) (m k : Nat) (hk : k < 8) : Own.z0f 137 (fun j => if j = k then .int .u64 (un (c.list[k]?.getD 0#64 + s.list[k]?.getD 0#64)) else stG (x5h c s k) bs m j) = Own.z0f 137 (stG (x5h c s (k + 1)) bs m) := by
 refine Own.z0k (fun j hj => ?_)
 unfold stG x5h
 by_cases e : j = k
 ·rw [if_pos e, if_pos (by omega), if_pos (by omega), e, List.getD_eq_getElem?_getD, List.getD_eq_getElem?_getD]
 ·rw [if_neg e]
  by_cases h : j < 8
  ·rw [if_pos h, if_pos h]
   by_cases h2 : j < k
   ·rw [if_pos h2, if_pos (by omega)]
   ·rw [if_neg h2, if_neg (by omega)]
  ·rw [if_neg h, if_neg h]
theorem k1m (c s : Sha.St) (bs : Nat → UInt8) (m : Nat) : Own.z0f 137 (stG (x5h c s 8) bs m) = Own.z0f 137 (stF (c.add s) bs m) := by
 refine Own.z0k (fun j hj => ?_)
 unfold stF stG x5h
 by_cases h : j < 8
 ·rw [if_pos h, if_pos h, if_pos h]
  rcases j with _ | _ | _ | _ | _ | _ | _ | _ | j
  all_goals first | rfl | omega
 ·rw [if_neg h, if_neg h]
theorem q4p {w : World} {b : Nat} {c s : Sha.St} {bs : Nat → UInt8} {m k : Nat} {t : TypeId} (h : w.heap[b]? = some (.cells (Own.z0f 137 (stG (x5h c s k) bs m)) t (0, 0))) (hk : k < 8) : w.cell? ⟨b, k, none⟩ = some (.int .u64 (un (c.list[k]?.getD 0#64))) := by
 rw [Own.z0o h k (by omega)]; unfold stG x5h; rw [if_pos hk, if_neg (by omega), List.getD_eq_getElem?_getD]
def z0j (w : World) : Prop := ∀ k, k < 80 → w.cell? ⟨0, k, none⟩ = some (.int .u64 (un (Sha.kAt k)))
theorem z0j.lt {w : World} (h : z0j w) : 0 < w.heap.size := block_lt_of_cell (h 0 (by decide))
theorem z0j.below {B : Nat} {w w' : World} (h : z0j w) (hb : Below B w w') (hB : 0 < B) : z0j w' := fun k hk => (hb.cell (p := ⟨0, k, none⟩) hB).trans (h k hk)
theorem z0j.only {b : Nat} {w w' : World} (h : z0j w) (ho : z5q b w w') (hb : b ≠ 0) : z0j w' := fun k hk => (World.cell?_of_block (w := w) (ho.block 0 h.lt (Ne.symm hb))).trans (h k hk)
set_option maxHeartbeats 2000000 in
set_option maxRecDepth 100000 in
theorem x7k (w : World) (b : Nat) (s : Sha.St) (bs : Nat → UInt8) (m : Nat) (hst : z1u w b s bs m) (_hb0 : b ≠ 0) (htab : z0j w) :
  Calls Tryz.prog 236 #[.pointer (some ⟨b, 0, none⟩)] w fun e w' => e = .returned (.tuple #[]) ∧ z5q b w w' ∧ z1u w' b (Sha.compress s (z2q bs)) bs m := by
 have HS : Hid _ := hst
 have HT : Hid _ := htab
 have hbl := k1o hst
 have h0l := htab.lt
 clear hst htab
 go_enter Tryz.func236, Tryz.ntmps236
 go_wp2_with (first
  | (go_at_call 271; refine (y7o _ b s bs m HS.out).mono ?_; rintro e w1 ⟨rfl, hb1⟩; have HB1 : Hid _ := hb1; clear hb1)
  | refine Own.z0t _ rfl 179 rfl (Own.z4z 80 (.int .u64 0)) (by kernel_rfl) ?_
  | refine Own.z3t rfl 179 _ _ rfl (Own.z4z 80 (.int .u64 0)) (Own.z0f 80 (z2p (z2q bs) 80)) 179 rfl rfl (by kernel_rfl) (by kernel_rfl) (Own.y0n fun j hj => by rw [z4t _ _ _ hj]; rfl) ?_)
 have hs1 : w.heap.size ≤ w1.heap.size := HB1.out.size
 have HW2 : Hid ((w1.alloc (.cells (Own.z0f 80 (z2p (z2q bs) 80)) 179)).heap[w1.heap.size]? = some (.cells (Own.z0f 80 (z2p (z2q bs) 80)) 179 (0, 0))) := heap_alloc_new _ _
 have HB2 : Hid (Below w.heap.size w (w1.alloc (.cells (Own.z0f 80 (z2p (z2q bs) 80)) 179))) := HB1.out.alloc hs1 _
 have HS2 : Hid (z1u (w1.alloc (.cells (Own.z0f 80 (z2p (z2q bs) 80)) 179)) b s bs m) := (HB2.out.block b hbl).trans HS.out
 have hsz2 : (w1.alloc (.cells (Own.z0f 80 (z2p (z2q bs) 80)) 179)).heap.size = w1.heap.size + 1 := by simp
 generalize w1.alloc (.cells (Own.z0f 80 (z2p (z2q bs) 80)) 179) = w2 at *
 have hc0 : w2.cell? ⟨b, 0, none⟩ = some (.int .u64 (un s.a)) := z5p HS2.out 0 (by decide)
 have hc1 : w2.cell? ⟨b, 1, none⟩ = some (.int .u64 (un s.b)) := z5p HS2.out 1 (by decide)
 have hc2 : w2.cell? ⟨b, 2, none⟩ = some (.int .u64 (un s.c)) := z5p HS2.out 2 (by decide)
 have hc3 : w2.cell? ⟨b, 3, none⟩ = some (.int .u64 (un s.d)) := z5p HS2.out 3 (by decide)
 refine wp_region_quiet_lit (by kernel_rfl) (by kernel_rfl) ?_
 repeat (first | go_big_quiet_step (fail) | quiet_step (fail))
 refine wpQuiet_nil ?_
 intro _ hw'
 obtain ⟨nq, hw''⟩ := hw'
 subst hw''
 clear hc0 hc1 hc2 hc3
 have HB3 : Hid (Below w.heap.size w (w2.drewN nq)) := Go.below_drewN HB2.out nq
 have HS3 : Hid (z1u (w2.drewN nq) b s bs m) := HS2.out
 have HW3 : Hid ((w2.drewN nq).heap[w1.heap.size]? = some (.cells (Own.z0f 80 (z2p (z2q bs) 80)) 179 (0, 0))) := HW2.out
 have hsz3 : (w2.drewN nq).heap.size = w1.heap.size + 1 := hsz2
 clear HB2 HS2 HW2 hsz2
 generalize w2.drewN nq = w3 at *
 have hc4 : w3.cell? ⟨b, 4, none⟩ = some (.int .u64 (un s.e)) := z5p HS3.out 4 (by decide)
 have hc5 : w3.cell? ⟨b, 5, none⟩ = some (.int .u64 (un s.f)) := z5p HS3.out 5 (by decide)
 have hc6 : w3.cell? ⟨b, 6, none⟩ = some (.int .u64 (un s.g)) := z5p HS3.out 6 (by decide)
 have hc7 : w3.cell? ⟨b, 7, none⟩ = some (.int .u64 (un s.h)) := z5p HS3.out 7 (by decide)
 go_wp2_with fail
 refine wp_region_quiet_lit (by kernel_rfl) (by kernel_rfl) ?_
 repeat (first | go_big_quiet_step (fail) | quiet_step (fail))
 refine wpQuiet_nil ?_
 intro _ hw'
 obtain ⟨nq, hw''⟩ := hw'
 subst hw''
 clear hc4 hc5 hc6 hc7
 have HB4 : Hid (Below w.heap.size w (w3.drewN nq)) := Go.below_drewN HB3.out nq
 have HS4 : Hid (z1u (w3.drewN nq) b s bs m) := HS3.out
 have HW4 : Hid ((w3.drewN nq).heap[w1.heap.size]? = some (.cells (Own.z0f 80 (z2p (z2q bs) 80)) 179 (0, 0))) := HW3.out
 have hsz4 : (w3.drewN nq).heap.size = w1.heap.size + 1 := hsz3
 clear HB3 HS3 HW3 hsz3
 generalize w3.drewN nq = w4 at *
 go_wp2_with fail
 go_loopw [3, 4, 5, 6, 7, 8, 9, 10, 58] (fun xa xb xc xd xe xf xg xh i wq => ∃ k : Nat, k ≤ 80 ∧ i = .int .i64 (k : Int) ∧ xa = .int .u64 (un (Sha.rounds (z2q bs) s k).a) ∧ xb = .int .u64 (un (Sha.rounds (z2q bs) s k).b) ∧ xc = .int .u64 (un (Sha.rounds (z2q bs) s k).c) ∧ xd = .int .u64 (un (Sha.rounds (z2q bs) s k).d) ∧ xe = .int .u64 (un (Sha.rounds (z2q bs) s k).e) ∧ xf = .int .u64 (un (Sha.rounds (z2q bs) s k).f) ∧ xg = .int .u64 (un (Sha.rounds (z2q bs) s k).g) ∧ xh = .int .u64 (un (Sha.rounds (z2q bs) s k).h) ∧ Below w4.heap.size w4 wq) (fun _ _ _ _ _ _ _ _ i _ => 80 - (intOf i).toNat)
 case atStart => exact ⟨0, by omega, rfl, rfl, rfl, rfl, rfl, rfl, rfl, rfl, rfl, Below.refl _ _⟩
 case round =>
  rename World => w5
  obtain ⟨k, hk, rfl, rfl, rfl, rfl, rfl, rfl, rfl, rfl, rfl, hb5⟩ := hrel
  have HB5 : Hid _ := hb5
  clear hb5
  generalize hst : Sha.rounds (z2q bs) s k = st at *
  have HST : Hid _ := hst
  clear hst
  by_cases hk80 : k < 80
  ·have hkc : w5.cell? ⟨0, k, none⟩ = some (.int .u64 (un (Sha.kAt k))) := (z0j.below HT.out (HB4.out.trans (HB5.out.mono (by omega))) h0l) k hk80
   have hwc : w5.cell? ⟨w1.heap.size, k, none⟩ = some (.int .u64 (un (Sha.W (z2q bs) k))) := by
    rw [Own.z0o ((HB5.out.block _ (by omega)).trans HW4.out) k hk80, z4t _ _ _ hk80]
   go_wp2_with fail
   refine wp_region_quiet_lit (by kernel_rfl) (by kernel_rfl) ?_
   repeat (first | go_big_quiet_step ((go_at_call 272; exact Calls.quiet_of_same (y5a _ _ _ _ (by decide) (by decide) (by decide) (by decide) (by decide) (by decide) _))) | quiet_step ((go_at_call 272; exact Calls.quiet_of_same (y5a _ _ _ _ (by decide) (by decide) (by decide) (by decide) (by decide) (by decide) _))))
   refine wpQuiet_nil ?_
   intro _ hw'
   obtain ⟨nq, hw''⟩ := hw'
   subst hw''
   clear hkc hwc
   go_wp2_with (first
    | (go_at_call 272; refine (y5a _ _ _ _ (by decide) (by decide) (by decide) (by decide) (by decide) (by decide) _).mono ?_; rintro e w' ⟨rfl, rfl⟩))
   have hs1 : Sha.rounds (z2q bs) s (k + 1) = Sha.round st (Sha.kAt k) (Sha.W (z2q bs) k) := by rw [← HST.out]; rfl
   exact ⟨⟨k + 1, by omega, by go_num, by rw [hs1]; rfl, by rw [hs1]; rfl, by rw [hs1]; rfl, by rw [hs1]; rfl, by rw [hs1]; rfl, by rw [hs1]; rfl, by rw [hs1]; rfl, by rw [hs1]; rfl, Go.below_drewN HB5.out nq⟩, by simp [intOf]; omega⟩
  ·obtain rfl : k = 80 := by omega
   have H1 : Hid (Below w.heap.size w w5) := HB4.out.trans (HB5.out.mono (by omega))
   have H2 : Hid (z1u w5 b s bs m) := (HB5.out.block _ (by omega)).trans HS4.out
   clear HB4 HS4 HW4 HB5
   go_wp2_with (first
    | refine Own.z4j rfl 177 _ rfl (Own.z0f 8 (z8s st)) (by kernel_rfl) ?_)
   go_loopw [118] (fun i wq => ∃ k : Nat, k ≤ 8 ∧ i = .int .i64 (k : Int) ∧ z5q b w wq ∧ wq.heap[b]? = some (.cells (Own.z0f 137 (stG (x5h s st k) bs m)) 270 (0, 0))) (fun i _ => 8 - (intOf i).toNat)
   case atStart => exact ⟨0, by omega, rfl, z5q.z0z H1.out, by rw [← x9j]; exact H2.out⟩
   case round =>
    rename World => w6
    obtain ⟨k, hk, rfl, ho6, hr6⟩ := hrel
    have HO6 : Hid _ := ho6
    have HR6 : Hid _ := hr6
    clear ho6 hr6 H1 H2
    by_cases hk8 : k < 8
    ·have hz := Own.z1o HR6.out k
     have hc := q4p HR6.out hk8
     have hix : ∀ W : World, Sem.run Tryz.prog (Instr.index 177 (.agg (Own.z0f 8 (z8s st))) (.int .i64 (k : Int))) W = .ok (.int .u64 (un (st.list[k]?.getD 0#64))) W := fun W => by rw [z8i W _ k hk8]; unfold z8s; rw [List.getD_eq_getElem?_getD]
     go_wp2_with fail
     go_region
     all_goals go_wp2_with fail
     exact ⟨⟨k + 1, by omega, by go_num, (HO6.out.trans (z5q.setCell _ _ _ _)).drew, by rw [heap_drew, Own.z1p HR6.out, q4q _ _ _ _ k hk8]⟩, by simp [intOf]; omega⟩
    ·obtain rfl : k = 8 := by omega
     go_wp2_with fail
     go_end0
     refine ⟨rfl, HO6.out, ?_⟩
     show w6.heap[b]? = _
     rw [HR6.out, k1m]
     rw [show Sha.compress s (z2q bs) = s.add st from by rw [← HST.out]; rfl]
end Hs
end Go.Proofs.YtbojijefenfbgaaGreatDoor
