/- Walk of the document's Right. Walks of the document's gate: high, ahead, gone. -/
import Derived.Test.YtbojijefenfbgaaGreatDoorGgShort
import Derived.Test.YtbojijefenfbgaaGreatDoorGgDocX
import Derived.Test.YtbojijefenfbgaaGreatDoorGgFrames
import Derived.Test.YtbojijefenfbgaaGreatDoorGgDocS
import Derived.Test.YtbojijefenfbgaaGreatDoorGgDocW
import Derived.Test.YtbojijefenfbgaaGreatDoorGgBookMath
import Derived.Test.YtbojijefenfbgaaGreatDoorGgGateH
namespace Go.Proofs.YtbojijefenfbgaaGreatDoor
open Go.RowKit
namespace Dc
open Bt Ed Gw Sw Cw
theorem timesN {e0 : T3} {q : Pt} (hq : OnP q) (he : RepT e0 q) (N : Nat) (hN : N < 2 ^ 256) : ∃ e : T3, (∀ w, Calls Tryz.prog 48 #[.agg (tp e0), .agg (nm (N : Int))] w fun e' w' => e' = .returned (.agg (tp e)) ∧ Below w.heap.size w w') ∧ RepT e (mulP q N) := by
 have h := tmul_rep hq he N hN 256 (Nat.le_refl _)
 rw [Nat.sub_self, Nat.pow_zero, Nat.div_one] at h
 exact ⟨tmul e0 N 256, times_d _ N, h⟩
theorem sumN {e f : T3} {p q : Pt} (hp : OnP p) (hq : OnP q) (he : RepT e p) (hf : RepT f q) : ∃ s : T3, (∀ w, Calls Tryz.prog 47 #[.agg (tp e), .agg (tp f), .agg (rn dD)] w fun e' w' => e' = .returned (.agg (tp s)) ∧ Below w.heap.size w w') ∧ RepT s (padd p q) :=
 ⟨tsumD dD e f, sum_d e f dD, by rw [tsumD_eq]; exact tsum_rep hp hq he hf⟩
theorem set_x (e : T3) (v : F) : Ks.setL (tp e) 0 (rn v).toList = tp ⟨v, e.y, e.z⟩ := by
 apply Array.ext_getElem?
 intro j
 have hl : (rn v).toList.length = 16 := by rw [Array.length_toList, rn_size]
 rw [Ks.setL_get _ _ _ _ (by rw [hl, tp_size]; omega), hl, tp_def, tp_def]
 by_cases h : j < 16
 ·rw [if_pos (by omega)]
  simp [Array.getElem?_append, rn_size, h]
 ·rw [if_neg (by omega)]
  simp [Array.getElem?_append, rn_size, h]
theorem neg_t (p : Pt) : (⟨0 - p.1, p.2, 1⟩ : T3) = taff (neg p).1 (neg p).2 := by
 have e : 0 - p.1 = -p.1 := by grind
 show _ = (⟨-p.1, p.2, 1⟩ : T3)
 rw [e]
theorem k_cat {ops : Array Oper} {rest : List Oper} {o : Oper} {a : Act} {w : World} {Q : Exit → Act → World → Prop} (hg : o.guard = none) (x y : Operand) (ho : o.op = .binOp .add 9 x y 9) (s t : List UInt8) (hx : a.eval x = .string ⟨s.toArray⟩) (hy : a.eval y = .string ⟨t.toArray⟩) (hl : s.length + t.length ≤ 1000000000000)
  (h : wpList Tryz.prog ops Q rest (a.put o.dst (.string ⟨(s ++ t).toArray⟩)) w) : wpList Tryz.prog ops Q (o :: rest) a w := by
 refine Ks.val hg _ ?_ h
 have hc := app_str s t
 clear h
 obtain ⟨dst, op, ty, pos, aft, gd⟩ := o
 simp only at ho
 subst ho
 unfold execOp
 simp only [hx, hy]
 go_simp
 omega
theorem right_no {k t g : List UInt8} (h : ¬ (k.length = 32 ∧ g.length = 64)) : rightE k t g = false := if_neg h
set_option maxRecDepth 100000 in
theorem rightD_no (k t g : List UInt8) (h : ¬ (k.length = 32 ∧ g.length = 64)) (w : World) : Calls Tryz.prog 10 #[.string ⟨k.toArray⟩, .string ⟨t.toArray⟩, .string ⟨g.toArray⟩] w fun e w' => e = .returned (.bool false) ∧ Below w.heap.size w w' := by
 go_enter Tryz.func10, Tryz.ntmps10
 refine wp_seq ?_
 refine Ks.reg ?_
 refine Ks.v (.bool false) ?_
 simp only [Act.put, zA, zB, zC]
 refine Ks.done ?_
 refine wp_seq ?_
 refine wp_seq ?_
 refine Ks.reg ?_
 refine Ks.v (.string ⟨k.toArray⟩) ?_
 simp only [Act.put, zA, zB, zC]
 refine Ks.v (.int .i64 (k.length : Int)) ?_
 simp only [Act.put, zA, zB, zC]
 by_cases hk : k.length = 32
 ·have hg : g.length ≠ 64 := fun x => h ⟨hk, x⟩
  refine Ks.val rfl (.bool false) (by simp [execOp, go_sem, hk]) ?_
  simp only [Act.put, zA, zB, zC]
  refine Ks.v (.bool false) ?_
  simp only [Act.put, zA, zB, zC]
  refine Ks.valg (by kernel_rfl) (.string ⟨g.toArray⟩) (by kernel_rfl) ?_
  simp only [Act.put, zA, zB, zC]
  refine Ks.valg (by kernel_rfl) (.int .i64 (g.length : Int)) (by kernel_rfl) ?_
  simp only [Act.put, zA, zB, zC]
  refine Ks.valg (by kernel_rfl) (.bool true) (by simp [execOp, go_sem]; omega) ?_
  simp only [Act.put, zA, zB, zC]
  refine Ks.v (.bool true) ?_
  simp only [Act.put, zA, zB, zC]
  refine Ks.done ?_
  refine wp_cond_true rfl ?_
  refine wp_seq ?_
  refine Ks.reg ?_
  refine Ks.v (.bool false) ?_
  simp only [Act.put, zA, zB, zC]
  refine Ks.done ?_
  refine wp_ret ?_
  repeat (refine Ks.ret ?_)
  refine bodyPost_ret (v := .bool false) (by simp [results, Tryz.results10]) rfl ?_
  exact ⟨rfl, Below.refl _ _⟩
 ·refine Ks.val rfl (.bool true) (by simp [execOp, go_sem]; omega) ?_
  simp only [Act.put, zA, zB, zC]
  refine Ks.v (.bool true) ?_
  simp only [Act.put, zA, zB, zC]
  with_reducible refine Ks.off (by kernel_rfl) ?_
  simp only [Act.put, zA, zB, zC]
  with_reducible refine Ks.off (by kernel_rfl) ?_
  simp only [Act.put, zA, zB, zC]
  with_reducible refine Ks.off (by kernel_rfl) ?_
  simp only [Act.put, zA, zB, zC]
  refine Ks.v (.bool true) ?_
  simp only [Act.put, zA, zB, zC]
  refine Ks.done ?_
  refine wp_cond_true rfl ?_
  refine wp_seq ?_
  refine Ks.reg ?_
  refine Ks.v (.bool false) ?_
  simp only [Act.put, zA, zB, zC]
  refine Ks.done ?_
  refine wp_ret ?_
  repeat (refine Ks.ret ?_)
  refine bodyPost_ret (v := .bool false) (by simp [results, Tryz.results10]) rfl ?_
  exact ⟨rfl, Below.refl _ _⟩
set_option maxRecDepth 100000 in
set_option maxHeartbeats 1000000 in
theorem rightD_yes (k t g : List UInt8) (hk : k.length = 32) (hg : g.length = 64) (htl : t.length ≤ 900000000) (w : World) : Calls Tryz.prog 10 #[.string ⟨k.toArray⟩, .string ⟨t.toArray⟩, .string ⟨g.toArray⟩] w fun e w' => e = .returned (.bool (rightE k t g)) ∧ Below w.heap.size w w' := by
 obtain ⟨s, hs⟩ : ∃ s, s = le (g.drop 32) := ⟨_, rfl⟩
 have hs16 : s < 65536 ^ 16 := by
  rw [hs]
  exact Nat.lt_of_lt_of_le (le_lt _) (by rw [List.length_drop, hg]; decide)
 have Hpa : Hid (∀ w, Calls Tryz.prog 38 #[.string ⟨(g.drop 32).toArray⟩] w fun e w' => e = .returned (.agg (nm (s : Int))) ∧ Below w.heap.size w w') := by
  rw [hs]
  exact parts_l (g.drop 32) (by rw [List.length_drop]; omega)
 have Hle : Hid (∀ w, Calls Tryz.prog 39 #[.agg (nm (s : Int)), .agg (nm oI)] w fun e w' => e = .returned (.bool (decide (s < LL))) ∧ Below w.heap.size w w') := fun w => by
  have h := less_f (s : Int) oI (by omega) (by omega) (by decide) (by decide) w
  have e : decide ((s : Int) < oI) = decide (s < LL) := by
   rw [oI_LL]
   congr 1
   exact propext Int.ofNat_lt
  rwa [e] at h
 obtain ⟨D, hD⟩ : ∃ D, D = ptN (le k) := ⟨_, rfl⟩
 have Hpt : Hid (∀ w, Calls Tryz.prog 41 #[.string ⟨k.toArray⟩] w fun e w' => e = .returned (.tuple #[.agg (tp D.1), .bool D.2]) ∧ Below w.heap.size w w') := by
  rw [hD]
  exact pointed_long k hk
 have Hiff : Hid (rightE k t g = true ↔ _) := right_iff k t g
 go_enter Tryz.func10, Tryz.ntmps10
 refine wp_seq ?_
 refine Ks.reg ?_
 refine Ks.v (.bool false) ?_
 simp only [Act.put, zA, zB, zC]
 refine Ks.done ?_
 refine wp_seq ?_
 refine wp_seq ?_
 refine Ks.reg ?_
 refine Ks.v (.string ⟨k.toArray⟩) ?_
 simp only [Act.put, zA, zB, zC]
 refine Ks.v (.int .i64 (k.length : Int)) ?_
 simp only [Act.put, zA, zB, zC]
 refine Ks.val rfl (.bool false) (by simp [execOp, go_sem, hk]) ?_
 simp only [Act.put, zA, zB, zC]
 refine Ks.v (.bool false) ?_
 simp only [Act.put, zA, zB, zC]
 refine Ks.valg (by kernel_rfl) (.string ⟨g.toArray⟩) (by kernel_rfl) ?_
 simp only [Act.put, zA, zB, zC]
 refine Ks.valg (by kernel_rfl) (.int .i64 (g.length : Int)) (by kernel_rfl) ?_
 simp only [Act.put, zA, zB, zC]
 refine Ks.valg (by kernel_rfl) (.bool false) (by simp [execOp, go_sem, hg]) ?_
 simp only [Act.put, zA, zB, zC]
 refine Ks.v (.bool false) ?_
 simp only [Act.put, zA, zB, zC]
 refine Ks.done ?_
 refine wp_cond_false rfl ?_
 refine wp_skip ?_
 refine Ks.norm ?_
 refine wp_seq ?_
 refine Ks.reg ?_
 refine Ks.v (.string ⟨g.toArray⟩) ?_
 simp only [Act.put, zA, zB, zC]
 refine Gt.k_cutl (by kernel_rfl) _ _ rfl g 32 (by omega) rfl rfl ?_
 simp only [Act.put, zA, zB, zC]
 refine Ks.pure (by kernel_rfl) 38 #[.string ⟨(g.drop 32).toArray⟩] (by kernel_rfl) (Hpa.out w) ?_
 intro w1 hb1
 simp only [Act.put, zA, zB, zC]
 refine Ks.decl rfl _ rfl (.agg (num fun _ => 0)) numZ_info rfl _ _ rfl (nm (s : Int)) (fun _ => rfl) (fun _ => rfl) (by rw [show (nm (s : Int)).size = 16 from num_size _]; kernel_rfl) ((num_size _).trans (num_size _).symm) (num_one _) ?_
 intro w2 gs Hgs HS2 HB2
 have HBA : Hid (Below w.heap.size w w2) := hb1.trans (HB2.out.mono hb1.size)
 clear hb1 HB2 Hpa Hgs
 simp only [Act.put, zA, zB, zC]
 refine Ks.done ?_
 refine wp_seq ?_
 refine Qt.wp_all (by kernel_rfl) (by kernel_rfl) ?_
 refine y_num rfl _ rfl gs _ rfl HS2.out ?_
 simp only [Act.put, zA, zB, zC]
 refine Qt.y_call rfl 40 #[] (.agg (nm oI)) (fun _ => by kernel_rfl) (fun w' _ => order_i w') ?_
 simp only [Act.put, zA, zB, zC]
 refine Qt.y_call rfl 39 #[.agg (nm (s : Int)), .agg (nm oI)] (.bool (decide (s < LL))) (fun _ => by kernel_rfl) (fun w' _ => Hle.out w') ?_
 simp only [Act.put, zA, zB, zC]
 refine Qt.y_val rfl (.bool (decide (s < LL))) (fun _ _ => by kernel_rfl) ?_
 simp only [Act.put, zA, zB, zC]
 refine Qt.y_nil ?_
 intro w3 hb3
 have HS3 : Hid (w3.heap[gs]? = _) := (hb3.block _ (Array.getElem?_eq_some_iff.1 HS2.out).1).trans HS2.out
 have HB3 : Hid (Below w.heap.size w w3) := HBA.out.trans (hb3.mono HBA.out.size)
 clear hb3 HS2 HBA Hle
 refine Ks.norm ?_
 refine wp_seq ?_
 refine wp_seq ?_
 refine Ks.reg ?_
 refine Ks.v (.bool (decide (s < LL))) ?_
 simp only [Act.put, zA, zB, zC]
 by_cases hlt : s < LL
 ·rw [decide_eq_true hlt]
  refine Ks.v (.bool false) ?_
  simp only [Act.put, zA, zB, zC]
  refine Ks.done ?_
  refine wp_cond_false rfl ?_
  refine wp_skip ?_
  refine Ks.norm ?_
  refine wp_seq ?_
  refine Ks.reg ?_
  refine Ks.v (.string ⟨k.toArray⟩) ?_
  simp only [Act.put, zA, zB, zC]
  refine Ks.pure (by kernel_rfl) 41 #[.string ⟨k.toArray⟩] (by kernel_rfl) (Hpt.out w3) ?_
  intro w4 hb4
  simp only [Act.put, zA, zB, zC]
  refine Ks.v (.tuple #[.agg (tp D.1), .bool D.2]) ?_
  simp only [Act.put, zA, zB, zC]
  refine Ks.v (.agg (tp D.1)) ?_
  simp only [Act.put, zA, zB, zC]
  refine Ks.v (.bool D.2) ?_
  simp only [Act.put, zA, zB, zC]
  refine Ks.decl rfl _ rfl (.agg (tp t0)) (by rw [tp_zero]; kernel_rfl) rfl _ _ rfl (tp D.1) (fun _ => rfl) (fun _ => rfl) (by rw [tp_size]; kernel_rfl) ((tp_size _).trans (tp_size _).symm) (tp_one _) ?_
  intro w5 ga Hga HA5 HB5
  have HX5 : Hid (Below w3.heap.size w3 w5) := hb4.trans (HB5.out.mono hb4.size)
  have HS5 : Hid (w5.heap[gs]? = _) := (HX5.out.block _ (Array.getElem?_eq_some_iff.1 HS3.out).1).trans HS3.out
  have hga : gs < ga ∧ w.heap.size ≤ ga := by
   have h1 := (Array.getElem?_eq_some_iff.1 HS3.out).1
   have h2 := Hga.out
   have h3 := hb4.size
   have h4 := HB3.out.size
   omega
  have HBB : Hid (Below w.heap.size w w5) := HB3.out.trans (HX5.out.mono HB3.out.size)
  clear hb4 HB5 HX5 HS3 HB3 Hga Hpt
  simp only [Act.put, zA, zB, zC]
  refine Ks.v (.bool D.2) ?_
  simp only [Act.put, zA, zB, zC]
  refine Ks.done ?_
  refine wp_seq ?_
  refine wp_seq ?_
  refine Ks.reg ?_
  refine Ks.v (.bool D.2) ?_
  simp only [Act.put, zA, zB, zC]
  cases hD2 : D.2 with
  | false =>
   refine Ks.v (.bool true) ?_
   simp only [Act.put, zA, zB, zC]
   refine Ks.done ?_
   refine wp_cond_true rfl ?_
   refine wp_seq ?_
   refine Ks.reg ?_
   refine Ks.v (.bool false) ?_
   simp only [Act.put, zA, zB, zC]
   refine Ks.done ?_
   have HF : Hid (rightE k t g = false) := by
    show rightE k t g = false
    cases hc : rightE k t g with
    | false => rfl
    | true =>
     obtain ⟨_, _, p, hp, hpk, _⟩ := Hiff.out.1 hc
     exact absurd hpk (pt_false (by rw [← hD]; exact hD2) p hp)
   refine wp_ret ?_
   repeat (refine Ks.ret ?_)
   refine bodyPost_ret (v := .bool false) (by simp [results, Tryz.results10]) rfl ?_
   exact ⟨by rw [HF.out], HBB.out⟩
  | true =>
   obtain ⟨p, hp, hpt, hpk⟩ := pt_true hk (by rw [← hD]; exact hD2)
   rw [← hD] at hpt
   have HA6 : Hid (TAt w5 ga (taff p.1 p.2)) := by
    show w5.heap[ga]? = _
    rw [HA5.out, hpt]
   clear HA5 hD hpt
   refine Ks.v (.bool false) ?_
   simp only [Act.put, zA, zB, zC]
   refine Ks.done ?_
   refine wp_cond_false rfl ?_
   refine wp_skip ?_
   refine Ks.norm ?_
   refine wp_seq ?_
   refine Qt.wp_tail 5 (by kernel_rfl) (by kernel_rfl) ?_
   simp only [List.take_succ_cons, List.take_zero]
   refine Qt.y_call rfl 43 #[.int .i64 0] (.agg (rn 0)) (fun _ => by kernel_rfl) (fun w' _ => small_d 0 (by decide) w') ?_
   refine Qt.y_val rfl (.pointer (some ⟨ga, 0, none⟩)) (fun _ _ => by kernel_rfl) ?_
   simp only [Act.put, zA, zB, zC]
   refine y_rf rfl _ rfl ga 0 p.1 rfl HA6.out.lt (HA6.out.x) ?_
   simp only [Act.put, zA, zB, zC]
   refine Qt.y_call rfl 42 #[.agg (rn (0)), .agg (rn (p.1))] _ (fun _ => by kernel_rfl) (fun w' _ => sub_d (0) (p.1) w') ?_
   simp only [Act.put, zA, zB, zC]
   refine Qt.y_val rfl (.pointer (some ⟨ga, 0, none⟩)) (fun _ _ => by kernel_rfl) ?_
   simp only [Act.put, zA, zB, zC]
   refine Qt.y_nil ?_
   simp only [List.drop_succ_cons, List.drop_zero]
   intro w6 hb6
   have HA7 : Hid (TAt w6 ga (taff p.1 p.2)) := HA6.out.below hb6 HA6.out.lt
   have HS6 : Hid (w6.heap[gs]? = _) := (hb6.block _ (Array.getElem?_eq_some_iff.1 HS5.out).1).trans HS5.out
   have HB6 : Hid (Below w.heap.size w w6) := HBB.out.trans (hb6.mono HBB.out.size)
   clear hb6 HA6 HS5 HBB
   refine Ks.part rfl _ _ _ rfl ga 0 (rn (0 - p.1)).toList rfl (by simp; rfl) HA7.out (by rw [Array.length_toList, rn_size, tp_size]; omega) (by rw [Array.length_toList, rn_size]; kernel_rfl) (by simpa using rn_one (0 - p.1)) (tp (taff (neg p).1 (neg p).2)) (by rw [set_x, ← neg_t]; rfl) ?_
   intro w7 HA8 H2 H3 H4
   have HS7 : Hid (w7.heap[gs]? = _) := (H3.out gs (by omega)).trans HS6.out
   have HB7 : Hid (Below w.heap.size w w7) := HB6.out.trans ((H2.out (fun _ => False) w.heap.size (Or.inr hga.2)).below (Nat.le_refl _) (fun _ _ h => h))
   have HA9 : Hid (TAt w7 ga (taff (neg p).1 (neg p).2)) := HA8.out
   clear H2 H3 H4 HA7 HA8 HS6 HB6
   simp only [Act.put]
   refine Ks.done ?_
   refine wp_seq ?_
   refine Ks.reg ?_
   refine Ks.v (.string ⟨g.toArray⟩) ?_
   simp only [Act.put, zA, zB, zC]
   refine Gt.k_cuth (by kernel_rfl) _ _ rfl g 32 (by omega) rfl rfl ?_
   simp only [Act.put, zA, zB, zC]
   refine Ks.v (.string ⟨k.toArray⟩) ?_
   simp only [Act.put, zA, zB, zC]
   refine k_cat rfl _ _ rfl (g.take 32) k rfl rfl (by rw [List.length_take]; omega) ?_
   simp only [Act.put, zA, zB, zC]
   refine Ks.v (.string ⟨t.toArray⟩) ?_
   simp only [Act.put, zA, zB, zC]
   refine k_cat rfl _ _ rfl (g.take 32 ++ k) t rfl rfl (by rw [List.length_append, List.length_take]; omega) ?_
   simp only [Act.put, zA, zB, zC]
   refine Ks.pure (by kernel_rfl) 46 #[.string ⟨(g.take 32 ++ k ++ t).toArray⟩] (by kernel_rfl) (refHash_l (g.take 32 ++ k ++ t) (by rw [List.length_append, List.length_append, List.length_take]; omega) w7) ?_
   intro w8 hb8
   simp only [Act.put, zA, zB, zC]
   refine Ks.call rfl 45 #[.string ⟨(Sha.sha (g.take 32 ++ k ++ t)).toArray⟩] (by kernel_rfl) (long_h (Sha.sha (g.take 32 ++ k ++ t)) (Sha.sha_length _) w8) ?_
   rintro v w9 ⟨hv9, hb9⟩
   simp only [Act.put, zA, zB, zC]
   refine Ks.pure (by kernel_rfl) 44 #[v] (by kernel_rfl) (hv9 w9 (Below.refl _ _)) ?_
   intro w10 hb10
   simp only [Act.put, zA, zB, zC]
   obtain ⟨n, hn⟩ : ∃ n, n = kN (g.take 32) k t := ⟨_, rfl⟩
   have hnd : le (Sha.sha (g.take 32 ++ k ++ t)) % LL = n := by rw [hn]; rfl
   rw [hnd]
   refine Ks.decl rfl _ rfl (.agg (num fun _ => 0)) numZ_info rfl _ _ rfl (nm (n : Int)) (fun _ => rfl) (fun _ => rfl) (by rw [show (nm (n : Int)).size = 16 from num_size _]; kernel_rfl) ((num_size _).trans (num_size _).symm) (num_one _) ?_
   intro w11 gn Hgn HN11 HB11
   have HX11 : Hid (Below w7.heap.size w7 w11) := ((hb8.trans (hb9.mono hb8.size)).trans (hb10.mono (Nat.le_trans hb8.size hb9.size))).trans (HB11.out.mono (Nat.le_trans (Nat.le_trans hb8.size hb9.size) hb10.size))
   have HS11 : Hid (w11.heap[gs]? = _) := (HX11.out.block _ (Array.getElem?_eq_some_iff.1 HS7.out).1).trans HS7.out
   have HA11 : Hid (TAt w11 ga (taff (neg p).1 (neg p).2)) := HA9.out.below HX11.out HA9.out.lt
   have HB12 : Hid (Below w.heap.size w w11) := HB7.out.trans (HX11.out.mono HB7.out.size)
   clear hb8 hb9 hv9 hb10 HB11 HX11 HS7 HA9 HB7 Hgn
   simp only [Act.put, zA, zB, zC]
   refine Ks.done ?_
   refine wp_seq ?_
   have hnp := neg_on hp
   obtain ⟨e1, He1, hr1⟩ := baseN s (Nat.lt_of_lt_of_le hs16 (by decide))
   obtain ⟨e2, He2, hr2⟩ := timesN hnp (taff_rep (neg p).1 (neg p).2) n (by rw [hn]; exact Nat.lt_of_lt_of_le (kN_lt _ _ _) (by decide))
   obtain ⟨e3, He3, hr3⟩ := sumN (mulP_on bP_on s) (mulP_on hnp n) hr1 hr2
   have HE1 : Hid _ := He1
   have HE2 : Hid _ := He2
   have HE3 : Hid _ := He3
   have HBy : Hid _ := bytes_rep hr3
   obtain ⟨Y, hY⟩ : ∃ Y, Y = encP (padd (mulP bP s) (mulP (neg p) n)) := ⟨_, rfl⟩
   rw [← hY] at HBy
   clear He1 He2 He3 hr1 hr2 hr3
   refine Qt.wp_let 8 (by kernel_rfl) (by kernel_rfl) _ rfl 100 rfl tpZ (by kernel_rfl) ?_
   simp only [List.take_succ_cons, List.take_zero]
   refine Qt.y_call rfl 49 #[] (.agg (tp (taff bX bY))) (fun _ => by kernel_rfl) (fun w' _ => base_d w') ?_
   refine y_num rfl _ rfl gs _ rfl HS11.out ?_
   simp only [Act.put, zA, zB, zC]
   refine Qt.y_call rfl 48 #[.agg (tp (taff bX bY)), .agg (nm (s : Int))] (.agg (tp e1)) (fun _ => by kernel_rfl) (fun w' _ => HE1.out w') ?_
   simp only [Act.put, zA, zB, zC]
   refine y_t rfl _ rfl ga _ rfl HA11.out ?_
   simp only [Act.put, zA, zB, zC]
   refine y_num rfl _ rfl gn _ rfl HN11.out ?_
   simp only [Act.put, zA, zB, zC]
   refine Qt.y_call rfl 48 #[.agg (tp (taff (neg p).1 (neg p).2)), .agg (nm (n : Int))] (.agg (tp e2)) (fun _ => by kernel_rfl) (fun w' _ => HE2.out w') ?_
   simp only [Act.put, zA, zB, zC]
   refine Qt.y_call rfl 50 #[] (.agg (rn dD)) (fun _ => by kernel_rfl) (fun w' _ => curve_d w') ?_
   simp only [Act.put, zA, zB, zC]
   refine Qt.y_call rfl 47 #[.agg (tp e1), .agg (tp e2), .agg (rn dD)] (.agg (tp e3)) (fun _ => by kernel_rfl) (fun w' _ => HE3.out w') ?_
   simp only [Act.put, zA, zB, zC]
   refine Qt.y_nil ?_
   simp only [List.drop_succ_cons, List.drop_zero]
   intro gp w12 hb12 hgp hz12
   simp only [List.setIfInBounds_toArray, List.set_cons_zero, List.set_cons_succ]
   refine Ks.whole rfl _ _ _ rfl gp (tp e3) rfl rfl hz12 (by rw [tp_size]; kernel_rfl) (by rw [tp_size]; rfl) (tp_one _) ?_
   intro w13 HP13 H2 H3 H4
   have HB13 : Hid (Below w.heap.size w w13) := (HB12.out.trans (hb12.mono HB12.out.size)).trans ((H2.out (fun _ => False) w.heap.size (Or.inr (Nat.le_trans HB12.out.size hgp))).below (Nat.le_refl _) (fun _ _ h => h))
   have HP14 : Hid (TAt w13 gp e3) := HP13.out
   clear H2 H3 H4 hb12 hz12 HB12 HP13 HS11 HA11 HN11 hgp
   simp only [Act.put]
   refine Ks.done ?_
   refine wp_seq ?_
   have HV : Hid (rightE k t g = decide (Y = g.take 32)) := by
    show rightE k t g = decide (Y = g.take 32)
    by_cases hc : Y = g.take 32
    ·rw [decide_eq_true hc]
     refine Hiff.out.2 ⟨hg, by rw [← hs]; exact hlt, p, hp, hpk, ?_⟩
     rw [← hs, ← hn, ← hY]
     exact hc
    ·rw [decide_eq_false hc]
     cases hx : rightE k t g with
     | false => rfl
     | true =>
      obtain ⟨_, _, p', hp', hpk', he⟩ := Hiff.out.1 hx
      obtain rfl : p' = p := encP_inj hp' hp (hpk'.trans hpk.symm)
      rw [← hs, ← hn, ← hY] at he
      exact absurd he hc
   refine Qt.wp_all (by kernel_rfl) (by kernel_rfl) ?_
   refine y_t rfl _ rfl gp _ rfl HP14.out ?_
   simp only [Act.put, zA, zB, zC]
   refine Qt.y_call rfl 51 #[.agg (tp e3)] (.string ⟨Y.toArray⟩) (fun _ => by kernel_rfl) (fun w' _ => HBy.out w') ?_
   simp only [Act.put, zA, zB, zC]
   refine Qt.y_val rfl (.string ⟨g.toArray⟩) (fun _ _ => by kernel_rfl) ?_
   simp only [Act.put, zA, zB, zC]
   refine Gt.y_cuth rfl _ _ rfl g 32 (by omega) rfl rfl ?_
   simp only [Act.put, zA, zB, zC]
   refine Qt.y_val rfl (.bool (decide (Y = g.take 32))) (fun _ _ => by
    simp [execOp, go_sem]
    rw [Bool.eq_iff_iff]
    simp) ?_
   simp only [Act.put, zA, zB, zC]
   refine Qt.y_val rfl (.bool (decide (Y = g.take 32))) (fun _ _ => by kernel_rfl) ?_
   simp only [Act.put, zA, zB, zC]
   refine Qt.y_nil ?_
   intro w14 hb14
   refine Ks.norm ?_
   refine wp_ret ?_
   repeat (refine Ks.ret ?_)
   refine bodyPost_ret (v := .bool (decide (Y = g.take 32))) (by simp [results, Tryz.results10]) rfl ?_
   exact ⟨by rw [HV.out], HB13.out.trans (hb14.mono HB13.out.size)⟩
 ·rw [decide_eq_false hlt]
  refine Ks.v (.bool true) ?_
  simp only [Act.put, zA, zB, zC]
  refine Ks.done ?_
  refine wp_cond_true rfl ?_
  refine wp_seq ?_
  refine Ks.reg ?_
  refine Ks.v (.bool false) ?_
  simp only [Act.put, zA, zB, zC]
  refine Ks.done ?_
  have HF : Hid (rightE k t g = false) := by
   show rightE k t g = false
   cases hc : rightE k t g with
   | false => rfl
   | true => exact absurd (hs ▸ (Hiff.out.1 hc).2.1) hlt
  refine wp_ret ?_
  repeat (refine Ks.ret ?_)
  refine bodyPost_ret (v := .bool false) (by simp [results, Tryz.results10]) rfl ?_
  exact ⟨by rw [HF.out], HB3.out⟩
theorem right_d (k t g : List UInt8) (htl : t.length ≤ 900000000) (w : World) : Calls Tryz.prog 10 #[.string ⟨k.toArray⟩, .string ⟨t.toArray⟩, .string ⟨g.toArray⟩] w fun e w' => e = .returned (.bool (rightE k t g)) ∧ Below w.heap.size w w' := by
 by_cases h : k.length = 32 ∧ g.length = 64
 ·exact rightD_yes k t g h.1 h.2 htl w
 ·rw [right_no h]
  exact rightD_no k t g h w
end Dc
end Go.Proofs.YtbojijefenfbgaaGreatDoor
namespace Go.Proofs.YtbojijefenfbgaaGreatDoor
open Go Go.RowKit
namespace Gt
open Mp Bk Tk
def hFrame (l : List UInt8) (k : Nat) (f : Nat → Value) : Act := { tmps := #[.string ⟨l.toArray⟩, f 1, .int .i64 0, .int .i64 (be (l.take k)), .int .i64 (k : Int), f 5, f 6, f 7, f 8, f 9, f 10, f 11, f 12, f 13, f 14, f 15, f 16, f 17, f 18], defers := [] }
theorem high_r (l : List UInt8) (h4 : l.length ≤ 4) (w : World) : Calls Tryz.prog 204 #[.string ⟨l.toArray⟩] w fun e w' => e = .returned (.int .i64 (be l)) ∧ Below w.heap.size w w' := by
 have hix : ∀ (W : World) (k : Nat) (h : k < l.length), Sem.run Tryz.prog (Instr.index 9 (.string ⟨l.toArray⟩) (.int .i64 (k : Int))) W = .ok (.int .u8 ((l[k]).toNat : Int)) W := fun W k h => Dc.run_index_str W ⟨l.toArray⟩ k (by exact h) k rfl
 go_enter Tryz.func204, Tryz.ntmps204
 refine wp_seq ?_
 refine Ks.reg ?_
 refine Ks.v (.int .i64 0) ?_
 simp only [Act.put, zA, zB, zC]
 refine Ks.done ?_
 refine wp_seq ?_
 refine Ks.reg ?_
 refine Ks.v (.int .i64 0) ?_
 simp only [Act.put, zA, zB, zC]
 refine Ks.done ?_
 refine wp_seq ?_
 refine wp_seq ?_
 refine Ks.reg ?_
 refine Ks.v (.int .i64 0) ?_
 simp only [Act.put, zA, zB, zC]
 refine Ks.done ?_
 refine wp_block ?_
 refine Ks.loop (fun m a wr => wr = w ∧ ∃ (k : Nat) (f : Nat → Value), k ≤ l.length ∧ m = l.length - k ∧ a = hFrame l k f) l.length ⟨rfl, 0, fun _ => undef, Nat.zero_le _, rfl, rfl⟩ ?_
 rintro m a wr ⟨rfl, k, f, hk, rfl, rfl⟩
 have fin : ∀ (a' : Act) (k' : Nat), k < k' → k' ≤ l.length → a' = hFrame l k' (fun j => a'.tmps.getD j undef) → ∃ m, m < l.length - k ∧ wr = wr ∧ ∃ (k : Nat) (f : Nat → Value), k ≤ l.length ∧ m = l.length - k ∧ a' = hFrame l k f := fun a' k' h1 h2 h3 => ⟨l.length - k', by omega, rfl, k', _, h2, rfl, h3⟩
 unfold hFrame
 refine wp_seq ?_
 refine wp_seq ?_
 refine Ks.reg ?_
 refine Ks.v (.int .i64 (k : Int)) ?_
 simp only [Act.put, zA, zB, zC]
 refine Ks.v (.string ⟨l.toArray⟩) ?_
 simp only [Act.put, zA, zB, zC]
 refine Ks.v (.int .i64 (l.length : Int)) ?_
 simp only [Act.put, zA, zB, zC]
 refine Ks.v (.bool (decide ((k : Int) < l.length))) ?_
 simp only [Act.put, zA, zB, zC]
 refine Ks.done ?_
 refine wp_cond_split rfl ?_ ?_
 ·intro hlt
  have hlt : k < l.length := by have := of_decide_eq_true hlt; omega
  refine wp_skip ?_
  refine Ks.norm ?_
  refine wp_seq ?_
  refine wp_block ?_
  refine Ks.reg ?_
  refine Ks.v (.int .i64 (be (l.take k))) ?_
  simp only [Act.put, zA, zB, zC]
  have hx : be (l.take k) < 4294967296 := Nat.lt_of_lt_of_le (be_lt _) (by
   have : (l.take k).length ≤ 4 := by rw [List.length_take]; omega
   exact Nat.pow_le_pow_right (n := 256) (by omega) this)
  refine Ks.val rfl (.int .i64 ((256 * be (l.take k) : Nat) : Int)) (by
   simp [execOp, go_sem]
   rw [IntWalk.i64_in _ ⟨by omega, by omega⟩]) ?_
  simp only [Act.put, zA, zB, zC]
  refine Ks.v (.string ⟨l.toArray⟩) ?_
  simp only [Act.put, zA, zB, zC]
  refine Ks.v (.int .i64 (k : Int)) ?_
  simp only [Act.put, zA, zB, zC]
  refine Ks.val rfl (.int .u8 ((l[k]'(by omega)).toNat : Int)) (by
   have := hix wr k (by omega)
   simp [execOp, go_sem, this]) ?_
  simp only [Act.put, zA, zB, zC]
  refine Ks.val rfl (.int .i64 ((l[k]'(by omega)).toNat : Int)) (by
   have hb := (l[k]'(by omega)).toNat_lt
   simp [execOp, go_sem]
   exact IntWalk.i64_in _ ⟨by omega, by omega⟩) ?_
  simp only [Act.put, zA, zB, zC]
  refine Ks.val rfl (.int .i64 ((be (l.take (k + 1)) : Nat) : Int)) (by
   have hb := (l[k]'(by omega)).toNat_lt
   have e : be (l.take (k + 1)) = 256 * be (l.take k) + (l[k]'(by omega)).toNat := by rw [List.take_succ_eq_append_getElem (by omega), be_snoc]
   rw [e]
   simp [execOp, go_sem]
   rw [IntWalk.i64_in _ ⟨by omega, by omega⟩]) ?_
  simp only [Act.put, zA, zB, zC]
  refine Ks.v (.int .i64 ((be (l.take (k + 1)) : Nat) : Int)) ?_
  simp only [Act.put, zA, zB, zC]
  refine Ks.fin ?_
  refine Ks.inb ?_
  refine Ks.reg ?_
  refine Ks.v (.int .i64 (k : Int)) ?_
  simp only [Act.put, zA, zB, zC]
  refine Ks.val rfl (.int .i64 ((k + 1 : Nat) : Int)) (by
   simp [execOp, go_sem]
   rw [IntWalk.i64_in _ ⟨by omega, by omega⟩]) ?_
  simp only [Act.put, zA, zB, zC]
  refine Ks.v (.int .i64 ((k + 1 : Nat) : Int)) ?_
  simp only [Act.put, zA, zB, zC]
  refine Ks.done ?_
  exact fin _ (k + 1) (by omega) hlt rfl
 ·intro hlt
  obtain rfl : k = l.length := by have := of_decide_eq_false hlt; omega
  refine wp_exit ?_
  refine Ks.exit2 ?_
  refine Ks.norm ?_
  rw [List.take_of_length_le (Nat.le_refl _)]
  refine wp_seq ?_
  refine Ks.reg ?_
  refine Ks.v (.int .i64 (be l)) ?_
  simp only [Act.put, zA, zB, zC]
  refine Ks.v (.int .i64 (be l)) ?_
  simp only [Act.put, zA, zB, zC]
  refine Ks.done ?_
  refine wp_ret ?_
  repeat (refine Ks.ret ?_)
  refine bodyPost_ret (v := .int .i64 (be l)) (by simp [results, Tryz.results204]) rfl ?_
  exact ⟨rfl, Below.refl _ _⟩
def itA (x : It) : Value := .agg (itC x).toArray
set_option maxRecDepth 10000 in
theorem ahead_r (x y : It) (w : World) : Calls Tryz.prog 251 #[itA x, itA y] w fun e w' => e = .returned (.bool (decide (Ahead x y))) ∧ Below w.heap.size w w' := by
 unfold itA itC
 go_enter Tryz.func251, Tryz.ntmps251
 refine wp_seq ?_
 refine Ks.reg ?_
 refine Ks.box rfl _ _ rfl (itC x).toArray rfl ?_
 intro w1 b1 Hb1 HX1 HB1 HS1
 simp only [Act.put, zA, zB, zC]
 refine Ks.box rfl _ _ rfl (itC y).toArray rfl ?_
 intro w2 b2 Hb2 HY2 HB2 HS2
 have HX2 : Hid (w2.heap[b1]? = _) := (HB2.out.block _ (Array.getElem?_eq_some_iff.1 HX1.out).1).trans HX1.out
 have HB : Hid (Below w.heap.size w w2) := HB1.out.trans (HB2.out.mono HB1.out.size)
 clear HX1 HB1 HB2 HS1 HS2 Hb1 Hb2
 simp only [Act.put, zA, zB, zC]
 refine Ks.v (.bool false) ?_
 simp only [Act.put, zA, zB, zC]
 refine Ks.done ?_
 refine wp_seq ?_
 refine Ks.reg ?_
 refine Ks.v (.pointer (some ⟨b1, 0, none⟩)) ?_
 simp only [Act.put, zA, zB, zC]
 refine Ks.cell rfl _ _ rfl Tryz.underlying3 rfl b1 0 (.int .i64 x.gate) rfl (row_at HX2.out 0 rfl) ?_
 simp only [Act.put, zA, zB, zC]
 refine Ks.v (.pointer (some ⟨b2, 0, none⟩)) ?_
 simp only [Act.put, zA, zB, zC]
 refine Ks.cell rfl _ _ rfl Tryz.underlying3 rfl b2 0 (.int .i64 y.gate) rfl (row_at HY2.out 0 rfl) ?_
 simp only [Act.put, zA, zB, zC]
 by_cases h1 : x.gate < y.gate
 ·refine Ks.val rfl (.bool true) (by simp [execOp, go_sem, h1]) ?_
  simp only [Act.put, zA, zB, zC]
  refine Ks.v (.bool true) ?_
  simp only [Act.put, zA, zB, zC]
  with_reducible refine Ks.off (by kernel_rfl) ?_
  simp only [Act.put, zA, zB, zC]
  with_reducible refine Ks.off (by kernel_rfl) ?_
  simp only [Act.put, zA, zB, zC]
  with_reducible refine Ks.off (by kernel_rfl) ?_
  simp only [Act.put, zA, zB, zC]
  with_reducible refine Ks.off (by kernel_rfl) ?_
  simp only [Act.put, zA, zB, zC]
  with_reducible refine Ks.off (by kernel_rfl) ?_
  simp only [Act.put, zA, zB, zC]
  with_reducible refine Ks.off (by kernel_rfl) ?_
  simp only [Act.put, zA, zB, zC]
  with_reducible refine Ks.off (by kernel_rfl) ?_
  simp only [Act.put, zA, zB, zC]
  with_reducible refine Ks.off (by kernel_rfl) ?_
  simp only [Act.put, zA, zB, zC]
  with_reducible refine Ks.off (by kernel_rfl) ?_
  simp only [Act.put, zA, zB, zC]
  with_reducible refine Ks.off (by kernel_rfl) ?_
  simp only [Act.put, zA, zB, zC]
  with_reducible refine Ks.off (by kernel_rfl) ?_
  simp only [Act.put, zA, zB, zC]
  with_reducible refine Ks.off (by kernel_rfl) ?_
  simp only [Act.put, zA, zB, zC]
  refine Ks.v (.bool true) ?_
  simp only [Act.put, zA, zB, zC]
  refine Ks.v (.bool true) ?_
  simp only [Act.put, zA, zB, zC]
  refine Ks.done ?_
  refine wp_ret ?_
  repeat (refine Ks.ret ?_)
  refine bodyPost_ret (v := .bool true) (by simp [results, Tryz.results251]) rfl ?_
  exact ⟨by rw [decide_eq_true (show Ahead x y from Or.inl h1)], HB.out⟩
 ·refine Ks.val rfl (.bool false) (by simp [execOp, go_sem, h1]) ?_
  simp only [Act.put, zA, zB, zC]
  refine Ks.v (.bool false) ?_
  simp only [Act.put, zA, zB, zC]
  refine Ks.valg (by kernel_rfl) (.pointer (some ⟨b1, 0, none⟩)) (by kernel_rfl) ?_
  simp only [Act.put, zA, zB, zC]
  refine Ks.cellg (by kernel_rfl) _ _ rfl Tryz.underlying3 rfl b1 0 (.int .i64 x.gate) rfl (row_at HX2.out 0 rfl) ?_
  simp only [Act.put, zA, zB, zC]
  refine Ks.valg (by kernel_rfl) (.pointer (some ⟨b2, 0, none⟩)) (by kernel_rfl) ?_
  simp only [Act.put, zA, zB, zC]
  refine Ks.cellg (by kernel_rfl) _ _ rfl Tryz.underlying3 rfl b2 0 (.int .i64 y.gate) rfl (row_at HY2.out 0 rfl) ?_
  simp only [Act.put, zA, zB, zC]
  by_cases h2 : x.gate = y.gate
  ·refine Ks.valg (by kernel_rfl) (.bool true) (by simp [execOp, go_sem, h2]) ?_
   simp only [Act.put, zA, zB, zC]
   refine Ks.valg (by kernel_rfl) (.bool true) (by kernel_rfl) ?_
   simp only [Act.put, zA, zB, zC]
   refine Ks.valg (by kernel_rfl) (.pointer (some ⟨b1, 1, none⟩)) (by kernel_rfl) ?_
   simp only [Act.put, zA, zB, zC]
   refine Ks.cellg (by kernel_rfl) _ _ rfl Tryz.underlying3 rfl b1 1 (.int .i64 x.adm) rfl (row_at HX2.out 1 rfl) ?_
   simp only [Act.put, zA, zB, zC]
   refine Ks.valg (by kernel_rfl) (.pointer (some ⟨b2, 1, none⟩)) (by kernel_rfl) ?_
   simp only [Act.put, zA, zB, zC]
   refine Ks.cellg (by kernel_rfl) _ _ rfl Tryz.underlying3 rfl b2 1 (.int .i64 y.adm) rfl (row_at HY2.out 1 rfl) ?_
   simp only [Act.put, zA, zB, zC]
   refine Ks.valg (by kernel_rfl) (.bool (decide (x.adm < y.adm))) (by kernel_rfl) ?_
   simp only [Act.put, zA, zB, zC]
   refine Ks.valg (by kernel_rfl) (.bool (decide (x.adm < y.adm))) (by kernel_rfl) ?_
   simp only [Act.put, zA, zB, zC]
   refine Ks.v (.bool (decide (x.adm < y.adm))) ?_
   simp only [Act.put, zA, zB, zC]
   refine Ks.v (.bool (decide (x.adm < y.adm))) ?_
   simp only [Act.put, zA, zB, zC]
   refine Ks.done ?_
   have e : decide (Ahead x y) = decide (x.adm < y.adm) := by
    unfold Ahead
    congr 1
    exact propext ⟨fun h => by omega, fun h => Or.inr ⟨h2, h⟩⟩
   rw [e]
   refine wp_ret ?_
   repeat (refine Ks.ret ?_)
   refine bodyPost_ret (v := .bool (decide (x.adm < y.adm))) (by simp [results, Tryz.results251]) rfl ?_
   exact ⟨rfl, HB.out⟩
  ·refine Ks.valg (by kernel_rfl) (.bool false) (by simp [execOp, go_sem, h2]) ?_
   simp only [Act.put, zA, zB, zC]
   refine Ks.valg (by kernel_rfl) (.bool false) (by kernel_rfl) ?_
   simp only [Act.put, zA, zB, zC]
   with_reducible refine Ks.off (by kernel_rfl) ?_
   simp only [Act.put, zA, zB, zC]
   with_reducible refine Ks.off (by kernel_rfl) ?_
   simp only [Act.put, zA, zB, zC]
   with_reducible refine Ks.off (by kernel_rfl) ?_
   simp only [Act.put, zA, zB, zC]
   with_reducible refine Ks.off (by kernel_rfl) ?_
   simp only [Act.put, zA, zB, zC]
   with_reducible refine Ks.off (by kernel_rfl) ?_
   simp only [Act.put, zA, zB, zC]
   refine Ks.valg (by kernel_rfl) (.bool false) (by kernel_rfl) ?_
   simp only [Act.put, zA, zB, zC]
   refine Ks.v (.bool false) ?_
   simp only [Act.put, zA, zB, zC]
   refine Ks.v (.bool false) ?_
   simp only [Act.put, zA, zB, zC]
   refine Ks.done ?_
   refine wp_ret ?_
   repeat (refine Ks.ret ?_)
   refine bodyPost_ret (v := .bool false) (by simp [results, Tryz.results251]) rfl ?_
   exact ⟨by rw [decide_eq_false (show ¬ Ahead x y by unfold Ahead; omega)], HB.out⟩
set_option maxRecDepth 10000 in
theorem gone_r (x : It) (F : Int) (w : World) : Calls Tryz.prog 206 #[itA x, .int .i64 F] w fun e w' => e = .returned (itA (fade F x)) ∧ Below w.heap.size w w' := by
 unfold itA itC
 go_enter Tryz.func206, Tryz.ntmps206
 refine wp_seq ?_
 refine Ks.reg ?_
 refine Ks.box rfl _ _ rfl (itC x).toArray rfl ?_
 intro w1 b1 Hb1 HX1 HB1 HS1
 simp only [Act.put, zA, zB, zC]
 refine Ks.alloc rfl _ rfl (.agg #[.int .i64 0, .int .i64 0, .int .i64 0, .int .i64 0, .bool false]) (by kernel_rfl) #[.int .i64 0, .int .i64 0, .int .i64 0, .int .i64 0, .bool false] rfl ?_
 intro w2 b2 Hb2 HR2 HB2 HS2
 have HX2 : Hid (w2.heap[b1]? = _) := (HB2.out.block _ (Array.getElem?_eq_some_iff.1 HX1.out).1).trans HX1.out
 have HB : Hid (Below w.heap.size w w2) := HB1.out.trans (HB2.out.mono HB1.out.size)
 have hb2 : w.heap.size ≤ b2 := by rw [Hb2.out]; exact HB1.out.size
 clear HX1 HB1 HB2 HS1 HS2 Hb1 Hb2
 simp only [Act.put, zA, zB, zC]
 refine Ks.done ?_
 refine wp_seq ?_
 refine wp_seq ?_
 refine Ks.reg ?_
 refine Ks.v (.pointer (some ⟨b1, 4, none⟩)) ?_
 simp only [Act.put, zA, zB, zC]
 refine Ks.cell rfl _ _ rfl Tryz.underlying4 rfl b1 4 (.bool x.gone) rfl (row_at HX2.out 4 rfl) ?_
 simp only [Act.put, zA, zB, zC]
 by_cases hg : x.gone = true
 ·have HF : Hid (fade F x = x) := if_neg (by simp [hg])
  rw [hg]
  refine Ks.v (.bool false) ?_
  simp only [Act.put, zA, zB, zC]
  refine Ks.v (.bool false) ?_
  simp only [Act.put, zA, zB, zC]
  with_reducible refine Ks.off (by kernel_rfl) ?_
  simp only [Act.put, zA, zB, zC]
  with_reducible refine Ks.off (by kernel_rfl) ?_
  simp only [Act.put, zA, zB, zC]
  with_reducible refine Ks.off (by kernel_rfl) ?_
  simp only [Act.put, zA, zB, zC]
  with_reducible refine Ks.off (by kernel_rfl) ?_
  simp only [Act.put, zA, zB, zC]
  refine Ks.v (.bool false) ?_
  simp only [Act.put, zA, zB, zC]
  refine Ks.done ?_
  refine wp_cond_false rfl ?_
  refine wp_skip ?_
  refine Ks.norm ?_
  refine wp_seq ?_
  refine Ks.reg ?_
  refine Ks.row rfl _ _ rfl b1 rfl HX2.out Tryz.underlying73 rfl (by kernel_rfl) ?_
  simp only [Act.put, zA, zB, zC]
  refine Ks.whole rfl _ _ _ rfl b2 (itC x).toArray rfl rfl HR2.out (by kernel_rfl) rfl (by simp [itC, Value.oneCell']) ?_
  intro w3 HR3 H2 H3 H4
  simp only [Act.put]
  refine Ks.done ?_
  refine wp_ret ?_
  exact Own.ret_row Tryz.results206 rfl b2 _ (itC x).toArray _ _ rfl HR3.out Tryz.underlying73 rfl (by kernel_rfl) ⟨by rw [HF.out]; rfl, HB.out.trans ((H2.out (fun _ => False) w.heap.size (Or.inr hb2)).below (Nat.le_refl _) (fun _ _ h => h))⟩
 ·simp only [Bool.not_eq_true] at hg
  rw [hg]
  refine Ks.v (.bool true) ?_
  simp only [Act.put, zA, zB, zC]
  refine Ks.v (.bool true) ?_
  simp only [Act.put, zA, zB, zC]
  refine Ks.valg (by kernel_rfl) (.pointer (some ⟨b1, 2, none⟩)) (by kernel_rfl) ?_
  simp only [Act.put, zA, zB, zC]
  refine Ks.cellg (by kernel_rfl) _ _ rfl Tryz.underlying3 rfl b1 2 (.int .i64 x.epoch) rfl (row_at HX2.out 2 rfl) ?_
  simp only [Act.put, zA, zB, zC]
  refine Ks.valg (by kernel_rfl) (.int .i64 F) (by kernel_rfl) ?_
  simp only [Act.put, zA, zB, zC]
  refine Ks.valg (by kernel_rfl) (.bool (decide (x.epoch < F))) (by kernel_rfl) ?_
  simp only [Act.put, zA, zB, zC]
  refine Ks.v (.bool (decide (x.epoch < F))) ?_
  simp only [Act.put, zA, zB, zC]
  refine Ks.done ?_
  refine wp_cond_split rfl ?_ ?_
  ·intro hlt
   have hlt := of_decide_eq_true hlt
   have HF : Hid (fade F x = ⟨x.gate, x.adm, 0, 0, true⟩) := if_pos ⟨hg, hlt⟩
   refine wp_seq ?_
   refine Ks.reg ?_
   refine Ks.v (.pointer (some ⟨b1, 0, none⟩)) ?_
   simp only [Act.put, zA, zB, zC]
   refine Ks.cell rfl _ _ rfl Tryz.underlying3 rfl b1 0 (.int .i64 x.gate) rfl (row_at HX2.out 0 rfl) ?_
   simp only [Act.put, zA, zB, zC]
   refine Ks.v (.pointer (some ⟨b1, 1, none⟩)) ?_
   simp only [Act.put, zA, zB, zC]
   refine Ks.cell rfl _ _ rfl Tryz.underlying3 rfl b1 1 (.int .i64 x.adm) rfl (row_at HX2.out 1 rfl) ?_
   simp only [Act.put, zA, zB, zC]
   refine Ks.v (.agg (itC ⟨x.gate, x.adm, 0, 0, true⟩).toArray) ?_
   simp only [Act.put, zA, zB, zC]
   refine Ks.whole rfl _ _ _ rfl b2 (itC ⟨x.gate, x.adm, 0, 0, true⟩).toArray rfl rfl HR2.out (by kernel_rfl) rfl (by simp [itC, Value.oneCell']) ?_
   intro w3 HR3 H2 H3 H4
   simp only [Act.put]
   refine Ks.done ?_
   refine wp_ret ?_
   repeat (refine Ks.ret ?_)
   exact Own.ret_row Tryz.results206 rfl b2 _ (itC ⟨x.gate, x.adm, 0, 0, true⟩).toArray _ _ rfl HR3.out Tryz.underlying73 rfl (by kernel_rfl) ⟨by rw [HF.out]; rfl, HB.out.trans ((H2.out (fun _ => False) w.heap.size (Or.inr hb2)).below (Nat.le_refl _) (fun _ _ h => h))⟩
  ·intro hlt
   have hlt := of_decide_eq_false hlt
   have HF : Hid (fade F x = x) := if_neg (fun h => hlt h.2)
   refine wp_skip ?_
   refine Ks.norm ?_
   refine wp_seq ?_
   refine Ks.reg ?_
   refine Ks.row rfl _ _ rfl b1 rfl HX2.out Tryz.underlying73 rfl (by kernel_rfl) ?_
   simp only [Act.put, zA, zB, zC]
   refine Ks.whole rfl _ _ _ rfl b2 (itC x).toArray rfl rfl HR2.out (by kernel_rfl) rfl (by simp [itC, Value.oneCell']) ?_
   intro w3 HR3 H2 H3 H4
   simp only [Act.put]
   refine Ks.done ?_
   refine wp_ret ?_
   exact Own.ret_row Tryz.results206 rfl b2 _ (itC x).toArray _ _ rfl HR3.out Tryz.underlying73 rfl (by kernel_rfl) ⟨by rw [HF.out]; rfl, HB.out.trans ((H2.out (fun _ => False) w.heap.size (Or.inr hb2)).below (Nat.le_refl _) (fun _ _ h => h))⟩
end Gt
end Go.Proofs.YtbojijefenfbgaaGreatDoor
