/- Walk of the document's own reckoning: Pointed, of 32 bytes. The document's point of bytes is the one that has them. -/
import Derived.Test.YtbojijefenfbgaaGreatDoorGgShort
import Derived.Test.YtbojijefenfbgaaGreatDoorGgDocW
import Derived.Test.YtbojijefenfbgaaGreatDoorGgGateD
import Derived.Test.YtbojijefenfbgaaGreatDoorGgApp
import Derived.Test.YtbojijefenfbgaaGreatDoorGgQFloat
import Derived.Test.YtbojijefenfbgaaGreatDoorGgFrames
import Derived.Test.YtbojijefenfbgaaGreatDoorGgDocL
import Derived.Test.YtbojijefenfbgaaGreatDoorGgDocS
namespace Go.Proofs.YtbojijefenfbgaaGreatDoor
open Go.RowKit
namespace Dc
open Bt Ed
theorem quo_int (x : Int) (h : 0 ≤ x ∧ x < 65536) : IntKind.i64.wrap (x.tdiv 32768) = x / 32768 := by
 rw [Int.tdiv_eq_ediv_of_nonneg h.1, wrap64 (by omega) (by omega)]
theorem cut_row (N : Nat) : (nm (N : Int)).setIfInBounds 15 (.int .i64 (dg (N : Int) 15 % 32768)) = nm ((N % 2 ^ 255 : Nat) : Int) := by
 unfold nm num
 rw [Own.mkRow_set]
 refine Own.mkRow_congr fun j hj => ?_
 rw [← dg_cut N j hj]
 by_cases e : j = 15
 ·rw [if_pos e, if_pos e]
 ·rw [if_neg e, if_neg e]
set_option maxRecDepth 100000 in
set_option maxHeartbeats 4000000 in
theorem pointed_long (l : List UInt8) (hl : l.length = 32) (w : World) : Calls Tryz.prog 41 #[.string ⟨l.toArray⟩] w fun e w' => e = .returned (.tuple #[.agg (tp (ptN (le l)).1), .bool (ptN (le l)).2]) ∧ Below w.heap.size w w' := by
 obtain ⟨N, hN⟩ : ∃ N, N = le l := ⟨_, rfl⟩
 have Hpa : Hid (∀ w, Calls Tryz.prog 38 #[.string ⟨l.toArray⟩] w fun e w' => e = .returned (.agg (nm (N : Int))) ∧ Below w.heap.size w w') := by
  rw [hN]
  exact parts_l l hl
 have hlt : N < 65536 ^ 16 := by
  rw [hN]
  exact Nat.lt_of_lt_of_le (le_lt l) (by rw [hl]; decide)
 rw [← hN]
 clear hN
 obtain ⟨O, hO⟩ : ∃ O, O = N / 2 ^ 255 := ⟨_, rfl⟩
 obtain ⟨M, hM⟩ : ∃ M, M = N % 2 ^ 255 := ⟨_, rfl⟩
 have Hcut : Hid ((nm (N : Int)).setIfInBounds 15 (.int .i64 (dg (N : Int) 15 % 32768)) = nm (M : Int)) := by
  rw [hM]
  exact cut_row N
 have Htop : Hid (dg (N : Int) 15 / 32768 = (O : Int)) := by
  rw [hO]
  exact dg_top N hlt
 have Hbel : Hid (∀ w, Calls Tryz.prog 92 #[.agg (nm (M : Int))] w fun e w' => e = .returned (.bool (decide (M < P))) ∧ Below w.heap.size w w') := fun w => by
  have h := below_f (M : Int) (by omega) (by
   have : M < 2 ^ 255 := by rw [hM]; exact Nat.mod_lt _ (by decide)
   have h2 : (2 : Nat) ^ 255 ≤ 65536 ^ 16 := by decide
   omega) w
  have e : decide ((M : Int) < pI) = decide (M < P) := by
   rw [pI_P]
   congr 1
   exact propext Int.ofNat_lt
  rwa [e] at h
 have Hpt : Hid (ptN N = if h : M < P then ptR ⟨M, h⟩ (decide (O = 1)) else (t0, false)) := by
  subst hO hM
  rfl
 have hO1 : O = 0 ∨ O = 1 := by
  have h2 : (65536 : Nat) ^ 16 = 2 * 2 ^ 255 := by decide
  rw [hO]
  have : N / 2 ^ 255 < 2 := Nat.div_lt_of_lt_mul (by omega)
  omega
 clear hO hM hlt
 have hbd := dg_bd N 15
 go_enter Tryz.func41, Tryz.ntmps41
 refine wp_seq ?_
 refine Ks.reg ?_
 refine Ks.alloc rfl _ rfl (.agg (tp t0)) (by rw [tp_zero]; kernel_rfl) (tp t0) rfl ?_
 intro w1 g Hg HR1 HB1 HS1
 simp only [Act.put, zA, zB, zC]
 refine Ks.v (.bool false) ?_
 simp only [Act.put, zA, zB, zC]
 refine Ks.done ?_
 refine wp_seq ?_
 refine wp_seq ?_
 refine Ks.reg ?_
 refine Ks.v (.string ⟨l.toArray⟩) ?_
 simp only [Act.put, zA, zB, zC]
 refine Ks.v (.int .i64 (l.length : Int)) ?_
 simp only [Act.put, zA, zB, zC]
 refine Ks.val rfl (.bool false) (by simp [execOp, go_sem, hl]) ?_
 simp only [Act.put, zA, zB, zC]
 refine Ks.done ?_
 refine wp_cond_false rfl ?_
 refine wp_skip ?_
 refine Ks.norm ?_
 refine wp_seq ?_
 refine Ks.reg ?_
 refine Ks.v (.string ⟨l.toArray⟩) ?_
 simp only [Act.put, zA, zB, zC]
 refine Ks.pure (by kernel_rfl) 38 #[.string ⟨l.toArray⟩] (by kernel_rfl) (Hpa.out w1) ?_
 intro w2 hb2
 simp only [Act.put, zA, zB, zC]
 refine Ks.decl rfl _ rfl (.agg (num fun _ => 0)) numZ_info rfl _ _ rfl (nm (N : Int)) (fun _ => rfl) (fun _ => rfl) (by rw [show (nm (N : Int)).size = 16 from num_size _]; kernel_rfl) ((num_size _).trans (num_size _).symm) (num_one _) ?_
 intro w3 gp Hgp HN3 HB3
 have HR3 : Hid (TAt w3 g t0) := (HB3.out.block g (Nat.lt_of_lt_of_le (Array.getElem?_eq_some_iff.1 HR1.out).1 hb2.size)).trans ((hb2.block g (Array.getElem?_eq_some_iff.1 HR1.out).1).trans HR1.out)
 have HBA : Hid (Below w.heap.size w w3) := (HB1.out.trans (hb2.mono HB1.out.size)).trans (HB3.out.mono (Nat.le_trans HB1.out.size hb2.size))
 have hgw : w.heap.size ≤ g := Nat.le_of_eq Hg.out.symm
 have hgp : g < gp := Nat.lt_of_lt_of_le (Nat.lt_of_lt_of_le (Array.getElem?_eq_some_iff.1 HR1.out).1 hb2.size) Hgp.out
 clear hb2 HR1 HB1 HB3 HS1 Hg Hgp Hpa
 simp only [Act.put, zA, zB, zC]
 refine Ks.done ?_
 refine wp_seq ?_
 refine Ks.reg ?_
 refine Ks.v (.pointer (some ⟨gp, 15, none⟩)) ?_
 simp only [Act.put, zA, zB, zC]
 refine Ks.cell rfl _ _ rfl Tryz.underlying3 rfl gp 15 _ rfl (num_cell HN3.out 15 (by omega)) ?_
 simp only [Act.put, zA, zB, zC]
 refine Ks.val rfl (.int .i64 (O : Int)) (by simp [execOp, go_sem]; rw [quo_int _ hbd, Htop.out]) ?_
 simp only [Act.put, zA, zB, zC]
 refine Ks.v (.int .i64 (O : Int)) ?_
 simp only [Act.put, zA, zB, zC]
 refine Ks.done ?_
 refine wp_seq ?_
 refine Ks.reg ?_
 refine Ks.v (.pointer (some ⟨gp, 15, none⟩)) ?_
 simp only [Act.put, zA, zB, zC]
 refine Ks.cell rfl _ _ rfl Tryz.underlying3 rfl gp 15 _ rfl (num_cell HN3.out 15 (by omega)) ?_
 simp only [Act.put, zA, zB, zC]
 refine Ks.val rfl (.int .i64 (dg (N : Int) 15 % 32768)) (by simp [execOp, go_sem]; exact Int.tmod_eq_emod_of_nonneg hbd.1) ?_
 simp only [Act.put, zA, zB, zC]
 refine Ks.v (.pointer (some ⟨gp, 15, none⟩)) ?_
 simp only [Act.put, zA, zB, zC]
 refine Ks.store rfl _ _ _ rfl gp 15 _ rfl rfl HN3.out (by rw [show (nm (N : Int)).size = 16 from num_size _]; omega) (by kernel_rfl) rfl (nm (M : Int)) Hcut.out ?_
 intro w4 HN4 H2 H3 H4
 have HR4 : Hid (TAt w4 g t0) := (H3.out g (by omega)).trans HR3.out
 have HB4 : Hid (Below w.heap.size w w4) := HBA.out.trans ((H2.out (fun _ => False) w.heap.size (Or.inr (by omega))).below (Nat.le_refl _) (fun _ _ h => h))
 clear HN3 HR3 HBA H2 H3 H4 Hcut
 simp only [Act.put]
 refine Ks.done ?_
 refine wp_seq ?_
 refine Ks.reg ?_
 refine Ks.row rfl _ _ rfl gp rfl HN4.out Tryz.underlying95 rfl (by rw [show (nm (M : Int)).size = 16 from num_size _]; kernel_rfl) ?_
 simp only [Act.put, zA, zB, zC]
 refine Ks.pure (by kernel_rfl) 92 #[.agg (nm (M : Int))] (by kernel_rfl) (Hbel.out w4) ?_
 intro w5 hb5
 have HR5 : Hid (TAt w5 g t0) := (hb5.block g (Array.getElem?_eq_some_iff.1 HR4.out).1).trans HR4.out
 have HN5 : Hid (w5.heap[gp]? = _) := (hb5.block gp (Array.getElem?_eq_some_iff.1 HN4.out).1).trans HN4.out
 have HB5 : Hid (Below w.heap.size w w5) := HB4.out.trans (hb5.mono HB4.out.size)
 clear hb5 HR4 HN4 HB4
 simp only [Act.put, zA, zB, zC]
 by_cases hlt : M < P
 ·rw [decide_eq_true hlt]
  rw [dif_pos hlt] at Hpt
  obtain ⟨y, hy⟩ : ∃ y : F, y = ⟨M, hlt⟩ := ⟨_, rfl⟩
  rw [← hy] at Hpt
  have HY5 : Hid (RAt w5 gp y) := by
   show w5.heap[gp]? = _
   rw [HN5.out, rn_def, hy]
  clear HN5 Hbel
  refine Ks.v (.bool true) ?_
  simp only [Act.put, zA, zB, zC]
  refine Ks.done ?_
  refine wp_seq ?_
  refine wp_seq ?_
  refine Ks.reg ?_
  refine Ks.v (.bool true) ?_
  simp only [Act.put, zA, zB, zC]
  refine Ks.v (.bool false) ?_
  simp only [Act.put, zA, zB, zC]
  refine Ks.done ?_
  refine wp_cond_false rfl ?_
  refine wp_skip ?_
  refine Ks.norm ?_
  refine wp_seq ?_
  refine Ks.reg ?_
  refine Ks.row rfl _ _ rfl gp rfl HY5.out Tryz.underlying95 rfl (by rw [rn_size]; kernel_rfl) ?_
  simp only [Act.put, zA, zB, zC]
  refine Ks.row rfl _ _ rfl gp rfl HY5.out Tryz.underlying95 rfl (by rw [rn_size]; kernel_rfl) ?_
  simp only [Act.put, zA, zB, zC]
  refine Ks.pure (by kernel_rfl) 93 #[.agg (rn y), .agg (rn y)] (by kernel_rfl) (mul_d y y w5) ?_
  intro w6 hb6
  simp only [Act.put, zA, zB, zC]
  refine Ks.decl rfl _ rfl (.agg (num fun _ => 0)) numZ_info rfl _ _ rfl (rn (y * y)) (fun _ => rfl) (fun _ => rfl) (by rw [rn_size]; kernel_rfl) ((num_size _).trans (rn_size _).symm) (rn_one _) ?_
  intro w7 gs Hgs HS7 HB7
  have HBx : Hid (Below w5.heap.size w5 w7) := hb6.trans (HB7.out.mono hb6.size)
  have HR7 : Hid (TAt w7 g t0) := (HBx.out.block g (Array.getElem?_eq_some_iff.1 HR5.out).1).trans HR5.out
  have HY7 : Hid (RAt w7 gp y) := (HBx.out.block gp (Array.getElem?_eq_some_iff.1 HY5.out).1).trans HY5.out
  have HBB : Hid (Below w.heap.size w w7) := HB5.out.trans (HBx.out.mono HB5.out.size)
  have HQ7 : Hid (RAt w7 gs (y * y)) := HS7.out
  clear hb6 HB7 HS7 HBx HR5 HY5 HB5 Hgs
  simp only [Act.put, zA, zB, zC]
  refine Ks.done ?_
  refine wp_seq ?_
  refine Qt.wp_let 3 (by kernel_rfl) (by kernel_rfl) _ rfl 95 rfl (num fun _ => 0) numZ_info ?_
  simp only [List.take_succ_cons, List.take_zero]
  refine y_r rfl _ rfl gs (y * y) rfl HQ7.out ?_
  simp only [Act.put, zA, zB, zC]
  refine Qt.y_call rfl 43 #[.int .i64 1] (.agg (rn 1)) (fun _ => by kernel_rfl) (fun w' _ => small_d 1 (by decide) w') ?_
  simp only [Act.put, zA, zB, zC]
  refine Qt.y_call rfl 42 #[.agg (rn (y * y)), .agg (rn (1))] _ (fun _ => by kernel_rfl) (fun w' _ => sub_d (y * y) (1) w') ?_
  simp only [Act.put, zA, zB, zC]
  refine Qt.y_nil ?_
  simp only [List.drop_succ_cons, List.drop_zero]
  intro gu w8 hb8 hgu hz8
  simp only [List.setIfInBounds_toArray, List.set_cons_zero, List.set_cons_succ]
  refine Ks.whole rfl _ _ _ rfl gu (rn (y * y - 1)) rfl rfl hz8 (by rw [rn_size]; kernel_rfl) ((num_size _).trans (rn_size _).symm) (rn_one _) ?_
  intro w9 HU9 H2 H3 H4
  have hgu2 : g < gu ∧ gp < gu ∧ gs < gu := by
   have h1 := (Array.getElem?_eq_some_iff.1 HR7.out).1
   have h2 := (Array.getElem?_eq_some_iff.1 HY7.out).1
   have h3 := (Array.getElem?_eq_some_iff.1 HQ7.out).1
   omega
  have HR9 : Hid (TAt w9 g t0) := (H3.out g (by omega)).trans ((hb8.block g (Array.getElem?_eq_some_iff.1 HR7.out).1).trans HR7.out)
  have HY9 : Hid (RAt w9 gp y) := (H3.out gp (by omega)).trans ((hb8.block gp (Array.getElem?_eq_some_iff.1 HY7.out).1).trans HY7.out)
  have HQ9 : Hid (RAt w9 gs (y * y)) := (H3.out gs (by omega)).trans ((hb8.block gs (Array.getElem?_eq_some_iff.1 HQ7.out).1).trans HQ7.out)
  have HB9 : Hid (Below w.heap.size w w9) := (HBB.out.trans (hb8.mono HBB.out.size)).trans ((H2.out (fun _ => False) w.heap.size (Or.inr (Nat.le_trans HBB.out.size hgu))).below (Nat.le_refl _) (fun _ _ h => h))
  have HU9 : Hid (RAt w9 gu (y * y - 1)) := HU9.out
  clear hb8 hz8 H2 H3 H4 HR7 HY7 HQ7 HBB hgu
  simp only [Act.put]
  refine Ks.done ?_
  refine wp_seq ?_
  refine Qt.wp_let 5 (by kernel_rfl) (by kernel_rfl) _ rfl 95 rfl (num fun _ => 0) numZ_info ?_
  simp only [List.take_succ_cons, List.take_zero]
  refine Qt.y_call rfl 50 #[] (.agg (rn dD)) (fun _ => by kernel_rfl) (fun w' _ => curve_d w') ?_
  refine y_r rfl _ rfl gs (y * y) rfl HQ9.out ?_
  simp only [Act.put, zA, zB, zC]
  refine Qt.y_call rfl 93 #[.agg (rn (dD)), .agg (rn (y * y))] _ (fun _ => by kernel_rfl) (fun w' _ => mul_d (dD) (y * y) w') ?_
  simp only [Act.put, zA, zB, zC]
  refine Qt.y_call rfl 43 #[.int .i64 1] (.agg (rn 1)) (fun _ => by kernel_rfl) (fun w' _ => small_d 1 (by decide) w') ?_
  refine Qt.y_call rfl 94 #[.agg (rn (dD * (y * y))), .agg (rn (1))] _ (fun _ => by kernel_rfl) (fun w' _ => add_d (dD * (y * y)) (1) w') ?_
  simp only [Act.put, zA, zB, zC]
  refine Qt.y_nil ?_
  simp only [List.drop_succ_cons, List.drop_zero]
  intro gv w10 hb10 hgv hz10
  simp only [List.setIfInBounds_toArray, List.set_cons_zero, List.set_cons_succ]
  refine Ks.whole rfl _ _ _ rfl gv (rn (dD * (y * y) + 1)) rfl rfl hz10 (by rw [rn_size]; kernel_rfl) ((num_size _).trans (rn_size _).symm) (rn_one _) ?_
  intro w11 HV11 H2 H3 H4
  have hgv2 : gu < gv := by
   have h1 := (Array.getElem?_eq_some_iff.1 HU9.out).1
   omega
  have HR11 : Hid (TAt w11 g t0) := (H3.out g (by omega)).trans ((hb10.block g (Array.getElem?_eq_some_iff.1 HR9.out).1).trans HR9.out)
  have HY11 : Hid (RAt w11 gp y) := (H3.out gp (by omega)).trans ((hb10.block gp (Array.getElem?_eq_some_iff.1 HY9.out).1).trans HY9.out)
  have HU11 : Hid (RAt w11 gu (y * y - 1)) := (H3.out gu (by omega)).trans ((hb10.block gu (Array.getElem?_eq_some_iff.1 HU9.out).1).trans HU9.out)
  have HB11 : Hid (Below w.heap.size w w11) := (HB9.out.trans (hb10.mono HB9.out.size)).trans ((H2.out (fun _ => False) w.heap.size (Or.inr (Nat.le_trans HB9.out.size hgv))).below (Nat.le_refl _) (fun _ _ h => h))
  have HV11 : Hid (RAt w11 gv (dD * (y * y) + 1)) := HV11.out
  clear hb10 hz10 H2 H3 H4 HR9 HY9 HQ9 HU9 HB9 hgv
  simp only [Act.put]
  refine Ks.done ?_
  refine wp_seq ?_
  obtain ⟨r, hr⟩ : ∃ r, r = rootR ((y * y - 1) * inv (dD * (y * y) + 1)) := ⟨_, rfl⟩
  have Hroot : Hid (∀ w, Calls Tryz.prog 95 #[.agg (rn ((y * y - 1) * inv (dD * (y * y) + 1)))] w fun e w' => e = .returned (.tuple #[.agg (rn r.1), .bool r.2]) ∧ Below w.heap.size w w') := by
   rw [hr]
   exact root_d _
  have HA : Hid (acrossR y (decide (O = 1)) = acrossRG r (decide (O = 1))) := by
   rw [hr]
   rfl
  clear hr
  refine Qt.wp_late 8 (by kernel_rfl) (by kernel_rfl) _ _ rfl rfl 95 rfl (num fun _ => 0) numZ_info _ _ rfl (rn r.1) (by rw [rn_size]; kernel_rfl) ((num_size _).trans (rn_size _).symm) (rn_one _) ?_
  simp only [List.take_succ_cons, List.take_zero]
  refine y_r rfl _ rfl gu (y * y - 1) rfl HU11.out ?_
  simp only [Act.put, zA, zB, zC]
  refine y_r rfl _ rfl gv (dD * (y * y) + 1) rfl HV11.out ?_
  simp only [Act.put, zA, zB, zC]
  refine Qt.y_call rfl 96 #[.agg (rn (dD * (y * y) + 1))] _ (fun _ => by kernel_rfl) (fun w' _ => under_d (dD * (y * y) + 1) w') ?_
  simp only [Act.put, zA, zB, zC]
  refine Qt.y_call rfl 93 #[.agg (rn (y * y - 1)), .agg (rn (inv (dD * (y * y) + 1)))] _ (fun _ => by kernel_rfl) (fun w' _ => mul_d (y * y - 1) (inv (dD * (y * y) + 1)) w') ?_
  simp only [Act.put, zA, zB, zC]
  refine Qt.y_call rfl 95 #[.agg (rn ((y * y - 1) * inv (dD * (y * y) + 1)))] (.tuple #[.agg (rn r.1), .bool r.2]) (fun _ => by kernel_rfl) (fun w' _ => Hroot.out w') ?_
  simp only [Act.put, zA, zB, zC]
  refine Qt.y_val rfl (.tuple #[.agg (rn r.1), .bool r.2]) (fun _ _ => by kernel_rfl) ?_
  refine Qt.y_val rfl (.agg (rn r.1)) (fun _ _ => by kernel_rfl) ?_
  refine Qt.y_val rfl (.bool r.2) (fun _ _ => by kernel_rfl) ?_
  simp only [Act.put, zA, zB, zC]
  refine Qt.y_nil ⟨fun _ => rfl, fun _ => rfl, ?_⟩
  intro gx w12 hgx hx12 hb12
  have hgx2 : g < gx ∧ gp < gx := by
   have h1 := (Array.getElem?_eq_some_iff.1 HR11.out).1
   have h2 := (Array.getElem?_eq_some_iff.1 HY11.out).1
   omega
  have HR12 : Hid (TAt w12 g t0) := (hb12.block g (Array.getElem?_eq_some_iff.1 HR11.out).1).trans HR11.out
  have HY12 : Hid (RAt w12 gp y) := (hb12.block gp (Array.getElem?_eq_some_iff.1 HY11.out).1).trans HY11.out
  have HX12 : Hid (RAt w12 gx r.1) := hx12
  have HB12 : Hid (Below w.heap.size w w12) := HB11.out.trans (hb12.mono HB11.out.size)
  have hgxw : w.heap.size ≤ gx := Nat.le_trans HB11.out.size hgx
  clear hb12 hx12 HR11 HY11 HU11 HV11 HB11 hgx Hroot
  simp only [List.setIfInBounds_toArray, List.set_cons_zero, List.set_cons_succ]
  refine Ks.v (.bool r.2) ?_
  simp only [Act.put, zA, zB, zC]
  refine Ks.done ?_
  refine wp_seq ?_
  refine wp_seq ?_
  refine Qt.wp_region_below (by kernel_rfl) (by kernel_rfl) ?_
  cases hr2 : r.2 with
  | false =>
   refine Qg.val (by kernel_rfl) (.bool false) (fun _ _ => by kernel_rfl) ?_
   simp only [Act.put, zA, zB, zC]
   refine Qg.val (by kernel_rfl) (.bool true) (fun _ _ => by kernel_rfl) ?_
   simp only [Act.put, zA, zB, zC]
   refine Qg.val (by kernel_rfl) (.bool true) (fun _ _ => by kernel_rfl) ?_
   simp only [Act.put, zA, zB, zC]
   with_reducible refine Qg.off (by kernel_rfl) ?_
   simp only [Act.put, zA, zB, zC]
   with_reducible refine Qg.off (by kernel_rfl) ?_
   simp only [Act.put, zA, zB, zC]
   with_reducible refine Qg.off (by kernel_rfl) ?_
   simp only [Act.put, zA, zB, zC]
   with_reducible refine Qg.off (by kernel_rfl) ?_
   simp only [Act.put, zA, zB, zC]
   with_reducible refine Qg.off (by kernel_rfl) ?_
   simp only [Act.put, zA, zB, zC]
   with_reducible refine Qg.off (by kernel_rfl) ?_
   simp only [Act.put, zA, zB, zC]
   with_reducible refine Qg.off (by kernel_rfl) ?_
   simp only [Act.put, zA, zB, zC]
   refine Qg.val (by kernel_rfl) (.bool true) (fun _ _ => by kernel_rfl) ?_
   simp only [Act.put, zA, zB, zC]
   refine wpQuiet_nil ?_
   intro w13 hb13
   have HR13 : Hid (TAt w13 g t0) := (hb13.block g (Array.getElem?_eq_some_iff.1 HR12.out).1).trans HR12.out
   have HY13 : Hid (RAt w13 gp y) := (hb13.block gp (Array.getElem?_eq_some_iff.1 HY12.out).1).trans HY12.out
   have HX13 : Hid (RAt w13 gx r.1) := (hb13.block gx (Array.getElem?_eq_some_iff.1 HX12.out).1).trans HX12.out
   have HB13 : Hid (Below w.heap.size w w13) := HB12.out.trans (hb13.mono HB12.out.size)
   clear hb13 HR12 HY12 HX12 HB12
   refine Ks.norm ?_
   have HG : Hid (acrossRG r (decide (O = 1)) = (0, false)) := if_pos hr2
   refine wp_cond_true rfl ?_
   refine wp_seq ?_
   refine Ks.reg ?_
   refine l_bz rfl rfl ?_
   simp only [Act.put, zA, zB, zC]
   refine Ks.whole rfl _ _ _ rfl g (tp t0) rfl rfl HR13.out (by rw [tp_size]; kernel_rfl) rfl (tp_one _) ?_
   intro w14 HR14 H2 H3 H4
   simp only [Act.put]
   refine Ks.v (.bool false) ?_
   simp only [Act.put, zA, zB, zC]
   refine Ks.done ?_
   refine wp_ret ?_
   repeat (refine Ks.ret ?_)
   have HQ : Hid (ptN N = (t0, false)) := by
    show ptN N = _
    rw [Hpt.out, ptR_def, HA.out, HG.out]
    exact if_pos rfl
   rw [HQ.out]
   exact ret_tb Tryz.results41 rfl g t0 false rfl rfl HR14.out ⟨rfl, HB13.out.trans ((H2.out (fun _ => False) w.heap.size (Or.inr hgw)).below (Nat.le_refl _) (fun _ _ h => h))⟩
  | true =>
   refine Qg.val (by kernel_rfl) (.bool true) (fun _ _ => by kernel_rfl) ?_
   simp only [Act.put, zA, zB, zC]
   refine Qg.val (by kernel_rfl) (.bool false) (fun _ _ => by kernel_rfl) ?_
   simp only [Act.put, zA, zB, zC]
   refine Qg.val (by kernel_rfl) (.bool false) (fun _ _ => by kernel_rfl) ?_
   simp only [Act.put, zA, zB, zC]
   refine Qg.val (by kernel_rfl) (.int .i64 (O : Int)) (fun _ _ => by kernel_rfl) ?_
   simp only [Act.put, zA, zB, zC]
   rcases hO1 with hO0 | hO0
   ·subst hO0
    refine Qg.val (by kernel_rfl) (.bool false) (fun _ _ => by kernel_rfl) ?_
    simp only [Act.put, zA, zB, zC]
    refine Qg.val (by kernel_rfl) (.bool false) (fun _ _ => by kernel_rfl) ?_
    simp only [Act.put, zA, zB, zC]
    with_reducible refine Qg.off (by kernel_rfl) ?_
    simp only [Act.put, zA, zB, zC]
    with_reducible refine Qg.off (by kernel_rfl) ?_
    simp only [Act.put, zA, zB, zC]
    with_reducible refine Qg.off (by kernel_rfl) ?_
    simp only [Act.put, zA, zB, zC]
    refine Qg.val (by kernel_rfl) (.bool false) (fun _ _ => by kernel_rfl) ?_
    simp only [Act.put, zA, zB, zC]
    refine Qg.val (by kernel_rfl) (.bool false) (fun _ _ => by kernel_rfl) ?_
    simp only [Act.put, zA, zB, zC]
    have hno : ¬ (decide ((0 : Nat) = 1) = true ∧ r.1 = 0) := fun h => absurd h.1 (by decide)
    have hO1 : (0 : Nat) = 0 ∨ (0 : Nat) = 1 := Or.inl rfl
    refine wpQuiet_nil ?_
    intro w13 hb13
    have HR13 : Hid (TAt w13 g t0) := (hb13.block g (Array.getElem?_eq_some_iff.1 HR12.out).1).trans HR12.out
    have HY13 : Hid (RAt w13 gp y) := (hb13.block gp (Array.getElem?_eq_some_iff.1 HY12.out).1).trans HY12.out
    have HX13 : Hid (RAt w13 gx r.1) := (hb13.block gx (Array.getElem?_eq_some_iff.1 HX12.out).1).trans HX12.out
    have HB13 : Hid (Below w.heap.size w w13) := HB12.out.trans (hb13.mono HB12.out.size)
    clear hb13 HR12 HY12 HX12 HB12
    refine Ks.norm ?_
    refine wp_cond_false rfl ?_
    refine wp_skip ?_
    refine Ks.norm ?_
    refine wp_seq ?_
    refine wp_seq ?_
    refine Ks.reg ?_
    refine Ks.v (.pointer (some ⟨gx, 0, none⟩)) ?_
    simp only [Act.put, zA, zB, zC]
    refine Ks.cell rfl _ _ rfl Tryz.underlying3 rfl gx 0 (.int .i64 (dg (r.1.val : Int) 0)) rfl (by
     have h := HX13.out
     unfold RAt at h
     rw [rn_def] at h
     exact num_cell h 0 (by omega)) ?_
    simp only [Act.put, zA, zB, zC]
    refine Ks.val rfl (.int .i64 (if oddF r.1 then 1 else 0)) (by
     have h := dg_bd r.1.val 0
     rw [← odd_dg]
     simp [execOp, go_sem]
     exact Int.tmod_eq_emod_of_nonneg h.1) ?_
    simp only [Act.put, zA, zB, zC]
    refine Ks.v (.int .i64 ((0 : Nat) : Int)) ?_
    simp only [Act.put, zA, zB, zC]
    by_cases hod : oddF r.1 = decide ((0 : Nat) = 1)
    ·refine Ks.val rfl (.bool false) (by
      simp at hod
      simp [execOp, go_sem, hod]) ?_
     simp only [Act.put, zA, zB, zC]
     refine Ks.done ?_
     refine wp_cond_false rfl ?_
     refine wp_skip ?_
     refine Ks.norm ?_
     have HG : Hid (acrossRG r (decide ((0 : Nat) = 1)) = (r.1, true)) := by
      show acrossRG _ _ = _
      unfold acrossRG
      rw [if_neg (by rw [hr2]; decide), if_neg hno, if_pos hod]
     have HX14 : Hid (RAt w13 gx r.1) := HX13.out
     have HY14 : Hid (RAt w13 gp y) := HY13.out
     have HR14 : Hid (TAt w13 g t0) := HR13.out
     have HB14 : Hid (Below w.heap.size w w13) := HB13.out
     refine wp_seq ?_
     refine Qt.wp_tail 4 (by kernel_rfl) (by kernel_rfl) ?_
     simp only [List.take_succ_cons, List.take_zero]
     refine y_r rfl _ rfl gx (r.1) rfl HX14.out ?_
     simp only [Act.put, zA, zB, zC]
     refine y_r rfl _ rfl gp y rfl HY14.out ?_
     simp only [Act.put, zA, zB, zC]
     refine Qt.y_call rfl 43 #[.int .i64 1] (.agg (rn 1)) (fun _ => by kernel_rfl) (fun w' _ => small_d 1 (by decide) w') ?_
     simp only [Act.put, zA, zB, zC]
     refine y_bt rfl _ rfl ⟨r.1, y, 1⟩ (by kernel_rfl) ?_
     simp only [Act.put, zA, zB, zC]
     refine Qt.y_nil ?_
     simp only [List.drop_succ_cons, List.drop_zero]
     intro w15 hb15
     have HR15 : Hid (TAt w15 g t0) := (hb15.block g (Array.getElem?_eq_some_iff.1 HR14.out).1).trans HR14.out
     have HB15 : Hid (Below w.heap.size w w15) := HB14.out.trans (hb15.mono HB14.out.size)
     refine Ks.whole rfl _ _ _ rfl g (tp ⟨r.1, y, 1⟩) rfl rfl HR15.out (by rw [tp_size]; kernel_rfl) ((tp_size _).trans (tp_size _).symm) (tp_one _) ?_
     intro w16 HR16 H2 H3 H4
     simp only [Act.put]
     refine Ks.v (.bool true) ?_
     simp only [Act.put, zA, zB, zC]
     refine Ks.done ?_
     refine wp_ret ?_
     have HQ : Hid (ptN N = (⟨r.1, y, 1⟩, true)) := by
      show ptN N = _
      rw [Hpt.out, ptR_def, HA.out, HG.out]
      rfl
     rw [HQ.out]
     exact ret_tb Tryz.results41 rfl g ⟨r.1, y, 1⟩ true rfl rfl HR16.out ⟨rfl, HB15.out.trans ((H2.out (fun _ => False) w.heap.size (Or.inr hgw)).below (Nat.le_refl _) (fun _ _ h => h))⟩
    ·refine Ks.val rfl (.bool true) (by
      simp at hod
      simp [execOp, go_sem, hod]) ?_
     simp only [Act.put, zA, zB, zC]
     refine Ks.done ?_
     refine wp_cond_true rfl ?_
     have HG : Hid (acrossRG r (decide ((0 : Nat) = 1)) = (0 - r.1, true)) := by
      show acrossRG _ _ = _
      unfold acrossRG
      rw [if_neg (by rw [hr2]; decide), if_neg hno, if_neg hod]
     refine Qt.wp_tail 3 (by kernel_rfl) (by kernel_rfl) ?_
     simp only [List.take_succ_cons, List.take_zero]
     refine Qt.y_call rfl 43 #[.int .i64 0] (.agg (rn 0)) (fun _ => by kernel_rfl) (fun w' _ => small_d 0 (by decide) w') ?_
     refine y_r rfl _ rfl gx r.1 rfl HX13.out ?_
     simp only [Act.put, zA, zB, zC]
     refine Qt.y_call rfl 42 #[.agg (rn (0)), .agg (rn (r.1))] _ (fun _ => by kernel_rfl) (fun w' _ => sub_d (0) (r.1) w') ?_
     simp only [Act.put, zA, zB, zC]
     refine Qt.y_nil ?_
     simp only [List.drop_succ_cons, List.drop_zero]
     intro w17 hb17
     have HX17 : Hid (RAt w17 gx r.1) := (hb17.block gx (Array.getElem?_eq_some_iff.1 HX13.out).1).trans HX13.out
     refine Ks.whole rfl _ _ _ rfl gx (rn (0 - r.1)) rfl rfl HX17.out (by rw [rn_size]; kernel_rfl) ((rn_size _).trans (rn_size _).symm) (rn_one _) ?_
     intro w14 HX14 H2 H3 H4
     have HX14 : Hid (RAt w14 gx (0 - r.1)) := HX14.out
     have HY14 : Hid (RAt w14 gp y) := (H3.out gp (by omega)).trans ((hb17.block gp (Array.getElem?_eq_some_iff.1 HY13.out).1).trans HY13.out)
     have HR14 : Hid (TAt w14 g t0) := (H3.out g (by omega)).trans ((hb17.block g (Array.getElem?_eq_some_iff.1 HR13.out).1).trans HR13.out)
     have HB14 : Hid (Below w.heap.size w w14) := (HB13.out.trans (hb17.mono HB13.out.size)).trans ((H2.out (fun _ => False) w.heap.size (Or.inr hgxw)).below (Nat.le_refl _) (fun _ _ h => h))
     clear hb17 HX17 H2 H3 H4 HX13 HY13 HR13 HB13
     simp only [Act.put]
     refine Ks.done ?_
     refine wp_seq ?_
     refine Qt.wp_tail 4 (by kernel_rfl) (by kernel_rfl) ?_
     simp only [List.take_succ_cons, List.take_zero]
     refine y_r rfl _ rfl gx (0 - r.1) rfl HX14.out ?_
     simp only [Act.put, zA, zB, zC]
     refine y_r rfl _ rfl gp y rfl HY14.out ?_
     simp only [Act.put, zA, zB, zC]
     refine Qt.y_call rfl 43 #[.int .i64 1] (.agg (rn 1)) (fun _ => by kernel_rfl) (fun w' _ => small_d 1 (by decide) w') ?_
     simp only [Act.put, zA, zB, zC]
     refine y_bt rfl _ rfl ⟨0 - r.1, y, 1⟩ (by kernel_rfl) ?_
     simp only [Act.put, zA, zB, zC]
     refine Qt.y_nil ?_
     simp only [List.drop_succ_cons, List.drop_zero]
     intro w15 hb15
     have HR15 : Hid (TAt w15 g t0) := (hb15.block g (Array.getElem?_eq_some_iff.1 HR14.out).1).trans HR14.out
     have HB15 : Hid (Below w.heap.size w w15) := HB14.out.trans (hb15.mono HB14.out.size)
     refine Ks.whole rfl _ _ _ rfl g (tp ⟨0 - r.1, y, 1⟩) rfl rfl HR15.out (by rw [tp_size]; kernel_rfl) ((tp_size _).trans (tp_size _).symm) (tp_one _) ?_
     intro w16 HR16 H2 H3 H4
     simp only [Act.put]
     refine Ks.v (.bool true) ?_
     simp only [Act.put, zA, zB, zC]
     refine Ks.done ?_
     refine wp_ret ?_
     have HQ : Hid (ptN N = (⟨0 - r.1, y, 1⟩, true)) := by
      show ptN N = _
      rw [Hpt.out, ptR_def, HA.out, HG.out]
      rfl
     rw [HQ.out]
     exact ret_tb Tryz.results41 rfl g ⟨0 - r.1, y, 1⟩ true rfl rfl HR16.out ⟨rfl, HB15.out.trans ((H2.out (fun _ => False) w.heap.size (Or.inr hgw)).below (Nat.le_refl _) (fun _ _ h => h))⟩
   ·subst hO0
    refine Qg.val (by kernel_rfl) (.bool true) (fun _ _ => by kernel_rfl) ?_
    simp only [Act.put, zA, zB, zC]
    refine Qg.val (by kernel_rfl) (.bool true) (fun _ _ => by kernel_rfl) ?_
    simp only [Act.put, zA, zB, zC]
    refine Qg.row (by kernel_rfl) _ _ rfl gx rfl _ (rn r.1) _ _ HX12.out Tryz.underlying95 rfl (by rw [rn_size]; kernel_rfl) ?_
    simp only [Act.put, zA, zB, zC]
    refine Qg.call (by kernel_rfl) 43 #[.int .i64 0] (.agg (rn 0)) (fun _ => by kernel_rfl) (fun w' _ => small_d 0 (by decide) w') ?_
    simp only [Act.put, zA, zB, zC]
    refine Qg.val (by kernel_rfl) (.bool (decide (r.1 = 0))) (fun w' _ => Ks.exec_eq _ _ _ _ rfl (rn r.1) (rn 0) rfl rfl (by kernel_rfl) _ (eq_d r.1 0 w')) ?_
    simp only [Act.put, zA, zB, zC]
    by_cases hx0 : r.1 = 0
    ·rw [decide_eq_true hx0]
     refine Qg.val (by kernel_rfl) (.bool true) (fun _ _ => by kernel_rfl) ?_
     simp only [Act.put, zA, zB, zC]
     refine Qg.val (by kernel_rfl) (.bool true) (fun _ _ => by kernel_rfl) ?_
     simp only [Act.put, zA, zB, zC]
     refine wpQuiet_nil ?_
     intro w13 hb13
     have HR13 : Hid (TAt w13 g t0) := (hb13.block g (Array.getElem?_eq_some_iff.1 HR12.out).1).trans HR12.out
     have HY13 : Hid (RAt w13 gp y) := (hb13.block gp (Array.getElem?_eq_some_iff.1 HY12.out).1).trans HY12.out
     have HX13 : Hid (RAt w13 gx r.1) := (hb13.block gx (Array.getElem?_eq_some_iff.1 HX12.out).1).trans HX12.out
     have HB13 : Hid (Below w.heap.size w w13) := HB12.out.trans (hb13.mono HB12.out.size)
     clear hb13 HR12 HY12 HX12 HB12
     refine Ks.norm ?_
     have HG : Hid (acrossRG r (decide ((1 : Nat) = 1)) = (0, false)) := by
      show acrossRG _ _ = _
      unfold acrossRG
      rw [if_neg (by rw [hr2]; decide), if_pos ⟨rfl, hx0⟩]
     refine wp_cond_true rfl ?_
     refine wp_seq ?_
     refine Ks.reg ?_
     refine l_bz rfl rfl ?_
     simp only [Act.put, zA, zB, zC]
     refine Ks.whole rfl _ _ _ rfl g (tp t0) rfl rfl HR13.out (by rw [tp_size]; kernel_rfl) rfl (tp_one _) ?_
     intro w14 HR14 H2 H3 H4
     simp only [Act.put]
     refine Ks.v (.bool false) ?_
     simp only [Act.put, zA, zB, zC]
     refine Ks.done ?_
     refine wp_ret ?_
     repeat (refine Ks.ret ?_)
     have HQ : Hid (ptN N = (t0, false)) := by
      show ptN N = _
      rw [Hpt.out, ptR_def, HA.out, HG.out]
      exact if_pos rfl
     rw [HQ.out]
     exact ret_tb Tryz.results41 rfl g t0 false rfl rfl HR14.out ⟨rfl, HB13.out.trans ((H2.out (fun _ => False) w.heap.size (Or.inr hgw)).below (Nat.le_refl _) (fun _ _ h => h))⟩
    ·rw [decide_eq_false hx0]
     refine Qg.val (by kernel_rfl) (.bool false) (fun _ _ => by kernel_rfl) ?_
     simp only [Act.put, zA, zB, zC]
     refine Qg.val (by kernel_rfl) (.bool false) (fun _ _ => by kernel_rfl) ?_
     simp only [Act.put, zA, zB, zC]
     have hno : ¬ (decide ((1 : Nat) = 1) = true ∧ r.1 = 0) := fun h => hx0 h.2
     have hO1 : (1 : Nat) = 0 ∨ (1 : Nat) = 1 := Or.inr rfl
     refine wpQuiet_nil ?_
     intro w13 hb13
     have HR13 : Hid (TAt w13 g t0) := (hb13.block g (Array.getElem?_eq_some_iff.1 HR12.out).1).trans HR12.out
     have HY13 : Hid (RAt w13 gp y) := (hb13.block gp (Array.getElem?_eq_some_iff.1 HY12.out).1).trans HY12.out
     have HX13 : Hid (RAt w13 gx r.1) := (hb13.block gx (Array.getElem?_eq_some_iff.1 HX12.out).1).trans HX12.out
     have HB13 : Hid (Below w.heap.size w w13) := HB12.out.trans (hb13.mono HB12.out.size)
     clear hb13 HR12 HY12 HX12 HB12
     refine Ks.norm ?_
     refine wp_cond_false rfl ?_
     refine wp_skip ?_
     refine Ks.norm ?_
     refine wp_seq ?_
     refine wp_seq ?_
     refine Ks.reg ?_
     refine Ks.v (.pointer (some ⟨gx, 0, none⟩)) ?_
     simp only [Act.put, zA, zB, zC]
     refine Ks.cell rfl _ _ rfl Tryz.underlying3 rfl gx 0 (.int .i64 (dg (r.1.val : Int) 0)) rfl (by
      have h := HX13.out
      unfold RAt at h
      rw [rn_def] at h
      exact num_cell h 0 (by omega)) ?_
     simp only [Act.put, zA, zB, zC]
     refine Ks.val rfl (.int .i64 (if oddF r.1 then 1 else 0)) (by
      have h := dg_bd r.1.val 0
      rw [← odd_dg]
      simp [execOp, go_sem]
      exact Int.tmod_eq_emod_of_nonneg h.1) ?_
     simp only [Act.put, zA, zB, zC]
     refine Ks.v (.int .i64 ((1 : Nat) : Int)) ?_
     simp only [Act.put, zA, zB, zC]
     by_cases hod : oddF r.1 = decide ((1 : Nat) = 1)
     ·refine Ks.val rfl (.bool false) (by
       simp at hod
       simp [execOp, go_sem, hod]) ?_
      simp only [Act.put, zA, zB, zC]
      refine Ks.done ?_
      refine wp_cond_false rfl ?_
      refine wp_skip ?_
      refine Ks.norm ?_
      have HG : Hid (acrossRG r (decide ((1 : Nat) = 1)) = (r.1, true)) := by
       show acrossRG _ _ = _
       unfold acrossRG
       rw [if_neg (by rw [hr2]; decide), if_neg hno, if_pos hod]
      have HX14 : Hid (RAt w13 gx r.1) := HX13.out
      have HY14 : Hid (RAt w13 gp y) := HY13.out
      have HR14 : Hid (TAt w13 g t0) := HR13.out
      have HB14 : Hid (Below w.heap.size w w13) := HB13.out
      refine wp_seq ?_
      refine Qt.wp_tail 4 (by kernel_rfl) (by kernel_rfl) ?_
      simp only [List.take_succ_cons, List.take_zero]
      refine y_r rfl _ rfl gx (r.1) rfl HX14.out ?_
      simp only [Act.put, zA, zB, zC]
      refine y_r rfl _ rfl gp y rfl HY14.out ?_
      simp only [Act.put, zA, zB, zC]
      refine Qt.y_call rfl 43 #[.int .i64 1] (.agg (rn 1)) (fun _ => by kernel_rfl) (fun w' _ => small_d 1 (by decide) w') ?_
      simp only [Act.put, zA, zB, zC]
      refine y_bt rfl _ rfl ⟨r.1, y, 1⟩ (by kernel_rfl) ?_
      simp only [Act.put, zA, zB, zC]
      refine Qt.y_nil ?_
      simp only [List.drop_succ_cons, List.drop_zero]
      intro w15 hb15
      have HR15 : Hid (TAt w15 g t0) := (hb15.block g (Array.getElem?_eq_some_iff.1 HR14.out).1).trans HR14.out
      have HB15 : Hid (Below w.heap.size w w15) := HB14.out.trans (hb15.mono HB14.out.size)
      refine Ks.whole rfl _ _ _ rfl g (tp ⟨r.1, y, 1⟩) rfl rfl HR15.out (by rw [tp_size]; kernel_rfl) ((tp_size _).trans (tp_size _).symm) (tp_one _) ?_
      intro w16 HR16 H2 H3 H4
      simp only [Act.put]
      refine Ks.v (.bool true) ?_
      simp only [Act.put, zA, zB, zC]
      refine Ks.done ?_
      refine wp_ret ?_
      have HQ : Hid (ptN N = (⟨r.1, y, 1⟩, true)) := by
       show ptN N = _
       rw [Hpt.out, ptR_def, HA.out, HG.out]
       rfl
      rw [HQ.out]
      exact ret_tb Tryz.results41 rfl g ⟨r.1, y, 1⟩ true rfl rfl HR16.out ⟨rfl, HB15.out.trans ((H2.out (fun _ => False) w.heap.size (Or.inr hgw)).below (Nat.le_refl _) (fun _ _ h => h))⟩
     ·refine Ks.val rfl (.bool true) (by
       simp at hod
       simp [execOp, go_sem, hod]) ?_
      simp only [Act.put, zA, zB, zC]
      refine Ks.done ?_
      refine wp_cond_true rfl ?_
      have HG : Hid (acrossRG r (decide ((1 : Nat) = 1)) = (0 - r.1, true)) := by
       show acrossRG _ _ = _
       unfold acrossRG
       rw [if_neg (by rw [hr2]; decide), if_neg hno, if_neg hod]
      refine Qt.wp_tail 3 (by kernel_rfl) (by kernel_rfl) ?_
      simp only [List.take_succ_cons, List.take_zero]
      refine Qt.y_call rfl 43 #[.int .i64 0] (.agg (rn 0)) (fun _ => by kernel_rfl) (fun w' _ => small_d 0 (by decide) w') ?_
      refine y_r rfl _ rfl gx r.1 rfl HX13.out ?_
      simp only [Act.put, zA, zB, zC]
      refine Qt.y_call rfl 42 #[.agg (rn (0)), .agg (rn (r.1))] _ (fun _ => by kernel_rfl) (fun w' _ => sub_d (0) (r.1) w') ?_
      simp only [Act.put, zA, zB, zC]
      refine Qt.y_nil ?_
      simp only [List.drop_succ_cons, List.drop_zero]
      intro w17 hb17
      have HX17 : Hid (RAt w17 gx r.1) := (hb17.block gx (Array.getElem?_eq_some_iff.1 HX13.out).1).trans HX13.out
      refine Ks.whole rfl _ _ _ rfl gx (rn (0 - r.1)) rfl rfl HX17.out (by rw [rn_size]; kernel_rfl) ((rn_size _).trans (rn_size _).symm) (rn_one _) ?_
      intro w14 HX14 H2 H3 H4
      have HX14 : Hid (RAt w14 gx (0 - r.1)) := HX14.out
      have HY14 : Hid (RAt w14 gp y) := (H3.out gp (by omega)).trans ((hb17.block gp (Array.getElem?_eq_some_iff.1 HY13.out).1).trans HY13.out)
      have HR14 : Hid (TAt w14 g t0) := (H3.out g (by omega)).trans ((hb17.block g (Array.getElem?_eq_some_iff.1 HR13.out).1).trans HR13.out)
      have HB14 : Hid (Below w.heap.size w w14) := (HB13.out.trans (hb17.mono HB13.out.size)).trans ((H2.out (fun _ => False) w.heap.size (Or.inr hgxw)).below (Nat.le_refl _) (fun _ _ h => h))
      clear hb17 HX17 H2 H3 H4 HX13 HY13 HR13 HB13
      simp only [Act.put]
      refine Ks.done ?_
      refine wp_seq ?_
      refine Qt.wp_tail 4 (by kernel_rfl) (by kernel_rfl) ?_
      simp only [List.take_succ_cons, List.take_zero]
      refine y_r rfl _ rfl gx (0 - r.1) rfl HX14.out ?_
      simp only [Act.put, zA, zB, zC]
      refine y_r rfl _ rfl gp y rfl HY14.out ?_
      simp only [Act.put, zA, zB, zC]
      refine Qt.y_call rfl 43 #[.int .i64 1] (.agg (rn 1)) (fun _ => by kernel_rfl) (fun w' _ => small_d 1 (by decide) w') ?_
      simp only [Act.put, zA, zB, zC]
      refine y_bt rfl _ rfl ⟨0 - r.1, y, 1⟩ (by kernel_rfl) ?_
      simp only [Act.put, zA, zB, zC]
      refine Qt.y_nil ?_
      simp only [List.drop_succ_cons, List.drop_zero]
      intro w15 hb15
      have HR15 : Hid (TAt w15 g t0) := (hb15.block g (Array.getElem?_eq_some_iff.1 HR14.out).1).trans HR14.out
      have HB15 : Hid (Below w.heap.size w w15) := HB14.out.trans (hb15.mono HB14.out.size)
      refine Ks.whole rfl _ _ _ rfl g (tp ⟨0 - r.1, y, 1⟩) rfl rfl HR15.out (by rw [tp_size]; kernel_rfl) ((tp_size _).trans (tp_size _).symm) (tp_one _) ?_
      intro w16 HR16 H2 H3 H4
      simp only [Act.put]
      refine Ks.v (.bool true) ?_
      simp only [Act.put, zA, zB, zC]
      refine Ks.done ?_
      refine wp_ret ?_
      have HQ : Hid (ptN N = (⟨0 - r.1, y, 1⟩, true)) := by
       show ptN N = _
       rw [Hpt.out, ptR_def, HA.out, HG.out]
       rfl
      rw [HQ.out]
      exact ret_tb Tryz.results41 rfl g ⟨0 - r.1, y, 1⟩ true rfl rfl HR16.out ⟨rfl, HB15.out.trans ((H2.out (fun _ => False) w.heap.size (Or.inr hgw)).below (Nat.le_refl _) (fun _ _ h => h))⟩
 ·rw [decide_eq_false hlt]
  rw [dif_neg hlt] at Hpt
  refine Ks.v (.bool false) ?_
  simp only [Act.put, zA, zB, zC]
  refine Ks.done ?_
  refine wp_seq ?_
  refine wp_seq ?_
  refine Ks.reg ?_
  refine Ks.v (.bool false) ?_
  simp only [Act.put, zA, zB, zC]
  refine Ks.v (.bool true) ?_
  simp only [Act.put, zA, zB, zC]
  refine Ks.done ?_
  refine wp_cond_true rfl ?_
  refine wp_seq ?_
  refine Ks.reg ?_
  refine l_bz rfl rfl ?_
  simp only [Act.put, zA, zB, zC]
  refine Ks.whole rfl _ _ _ rfl g (tp t0) rfl rfl HR5.out (by rw [tp_size]; kernel_rfl) rfl (tp_one _) ?_
  intro w6 HR6 H2 H3 H4
  simp only [Act.put]
  refine Ks.v (.bool false) ?_
  simp only [Act.put, zA, zB, zC]
  refine Ks.done ?_
  refine wp_ret ?_
  repeat (refine Ks.ret ?_)
  rw [Hpt.out]
  exact ret_tb Tryz.results41 rfl g t0 false rfl rfl HR6.out ⟨rfl, HB5.out.trans ((H2.out (fun _ => False) w.heap.size (Or.inr hgw)).below (Nat.le_refl _) (fun _ _ h => h))⟩
end Dc
end Go.Proofs.YtbojijefenfbgaaGreatDoor
namespace Go.Proofs.YtbojijefenfbgaaGreatDoor
open Go.RowKit
namespace Dc
open Bt Ed Gw Sw Cw
theorem two255 : (2 : Nat) ^ 255 = 57896044618658097711785492504343953926634992332820282019728792003956564819968 := by decide
theorem pt_wrap {l : List UInt8} (hl : l.length = 32) {x y : F} {o : Bool} (D : T3) (h4 : OnP (x, y)) (hD : D = taff x y) (hy : y.val = le l % 57896044618658097711785492504343953926634992332820282019728792003956564819968) (h5 : oddF x = o) (ho : o = decide (le l / 57896044618658097711785492504343953926634992332820282019728792003956564819968 = 1)) : ∃ p : Pt, OnP p ∧ D = taff p.1 p.2 ∧ encP p = l := by
 refine ⟨(x, y), h4, hD, ?_⟩
 have e := enc_of hy (h5.trans ho) (Nat.lt_of_lt_of_le (le_lt l) (by rw [hl]; decide))
 show leB (enc x y) 32 = l
 rw [e]
 have := leB_le l
 rwa [hl] at this
theorem pt_split {y : F} {o : Bool} (h : (ptR y o).2 = true) : (acrossR y o).2 = true ∧ ∃ x, x = (acrossR y o).1 ∧ (ptR y o).1 = taff x y := by
 rw [ptR_def] at h ⊢
 generalize acrossR y o = r at h ⊢
 cases h2 : r.2 with
 | false => rw [if_pos h2] at h; cases h
 | true =>
  rw [if_neg (by simp)]
  exact ⟨rfl, r.1, rfl, rfl⟩
theorem pt_true {l : List UInt8} (hl : l.length = 32) (h : (ptN (le l)).2 = true) : ∃ p : Pt, OnP p ∧ (ptN (le l)).1 = taff p.1 p.2 ∧ encP p = l := by
 obtain ⟨N, hN⟩ : ∃ N, N = le l := ⟨_, rfl⟩
 rw [← hN] at h ⊢
 unfold ptN at h ⊢
 by_cases hc : N % 2 ^ 255 < P
 ·rw [dif_pos hc] at h ⊢
  obtain ⟨y, hy⟩ : ∃ y : F, y = ⟨N % 2 ^ 255, hc⟩ := ⟨_, rfl⟩
  obtain ⟨o, ho⟩ : ∃ o : Bool, o = decide (N / 2 ^ 255 = 1) := ⟨_, rfl⟩
  rw [← hy, ← ho] at h ⊢
  have hyv : y.val = N % 57896044618658097711785492504343953926634992332820282019728792003956564819968 := by
   have : y.val = N % 2 ^ 255 := by rw [hy]
   rw [this, two255]
  rw [two255] at ho
  obtain ⟨h2, x, hx, hD⟩ := pt_split h
  obtain ⟨h4, h5⟩ := acrossR_true h2
  rw [← hx] at h4 h5
  rw [hN] at hyv ho
  exact pt_wrap hl _ h4 hD hyv h5 ho
 ·rw [dif_neg hc] at h; cases h
theorem pt_fails {y x : F} {o : Bool} (h : (ptR y o).2 = false) (hp : OnP (x, y)) (ho : oddF x = o) : False := by
 rw [ptR_def] at h
 have h2 : (acrossR y o).2 = false := by
  cases h2 : (acrossR y o).2 with
  | false => rfl
  | true => rw [h2, if_neg (by simp)] at h; cases h
 exact acrossR_false h2 x hp ho
theorem pt_false {l : List UInt8} (h : (ptN (le l)).2 = false) (p : Pt) (hp : OnP p) : encP p ≠ l := by
 intro he
 obtain ⟨x, y⟩ := p
 have hN : le l = enc x y := by rw [← he, encP_le]
 have hm := enc_mod (x, y)
 obtain ⟨N, hN2⟩ : ∃ N, N = enc x y := ⟨_, rfl⟩
 rw [hN, ← hN2] at h
 simp only [← hN2] at hm
 unfold ptN at h
 have h1 : N % 2 ^ 255 = y.val := by rw [two255]; exact hm.1
 have hlt : N % 2 ^ 255 < P := by rw [h1]; exact y.isLt
 rw [dif_pos hlt] at h
 have hy : (⟨N % 2 ^ 255, hlt⟩ : F) = y := Fin.ext h1
 have ho : decide (N / 2 ^ 255 = 1) = oddF x := by
  rw [two255, hm.2]
  cases oddF x <;> rfl
 rw [hy, ho] at h
 exact pt_fails h hp rfl
end Dc
end Go.Proofs.YtbojijefenfbgaaGreatDoor
