/- Walks of the program's curve: fromQuotients, Add, Double. (Laid by wip/gen/curveb.py.) -/
import Derived.Test.YtbojijefenfbgaaGreatDoorGgShort
import Derived.Test.YtbojijefenfbgaaGreatDoorGgCurveA
namespace Go.Proofs.YtbojijefenfbgaaGreatDoor
open Go.RowKit
namespace Cw
open Fw
theorem tf_f (w : World) : Calls Tryz.prog 239 #[] w fun e w' => e = .returned (.agg (fw (Ed.dD + Ed.dD))) ∧ Below w.heap.size w w' := by
 rw [fw_lit (Ed.dD + Ed.dD) 16993941304535871833 63073048630374742 1841551078520508720 2596001775599221991 (by decide) (by decide) (by decide) (by decide) (by decide)]
 go_enter Tryz.func239, Tryz.ntmps239
 go_wp2_with fail
 exact Own.ret_row Tryz.results239 rfl w.heap.size 161 _ (0, 0) _ rfl (heap_alloc_new _ _) Tryz.underlying161 rfl (by kernel_rfl) ⟨rfl, (Below.refl _ _).alloc (Nat.le_refl _) _⟩
theorem factor_f (w : World) : Calls Tryz.prog 228 #[] w fun e w' => e = .returned (.agg (fw Ed.dD)) ∧ Below w.heap.size w w' := by
 rw [fw_lit Ed.dD 8496970652267935907 31536524315187371 10144147576115030168 5909686906226998899 (by decide) (by decide) (by decide) (by decide) (by decide)]
 go_enter Tryz.func228, Tryz.ntmps228
 go_wp2_with fail
 exact Own.ret_row Tryz.results228 rfl w.heap.size 161 _ (0, 0) _ rfl (heap_alloc_new _ _) Tryz.underlying161 rfl (by kernel_rfl) ⟨rfl, (Below.refl _ _).alloc (Nat.le_refl _) _⟩
noncomputable abbrev V3 (w : World) (e f : Ed.E) : World := ((w.alloc (.cells (pw e) 163)).alloc (.cells (pw f) 163)).alloc (.cells ptZero 163)
theorem V3_a (w : World) (e f : Ed.E) : PAt (V3 w e f) w.heap.size e := PAt.below (alloc_at w _ _ rfl) (((Below.refl (w.heap.size + 1) _).alloc (by simp) _).alloc (by simp) _) (by omega)
theorem V3_c (w : World) (e f : Ed.E) : PAt (V3 w e f) (w.heap.size + 1) f := PAt.below (alloc_at _ _ _ (by simp)) ((Below.refl (w.heap.size + 2) _).alloc (by simp) _) (by omega)
theorem V3_r (w : World) (e f : Ed.E) : PAt (V3 w e f) (w.heap.size + 1 + 1) e0 := .zero (alloc_at _ _ _ (by simp))
theorem V3_b (w : World) (e f : Ed.E) : Below w.heap.size w (V3 w e f) := (((Below.refl _ _).alloc (Nat.le_refl _) _).alloc (by simp) _).alloc (by simp; omega) _
theorem PAt.other {w : World} {b c : Nat} {e : Ed.E} (h : PAt w b e) (hne : b ≠ c) (cs : Array Value) : PAt (w.setRow c cs) b e := by
 unfold PAt at *
 rw [← h]
 show (Array.modify _ _ _)[b]? = _
 rw [Array.getElem?_modify, if_neg (Ne.symm hne)]
noncomputable abbrev U5 (w : World) (x y z t : Ed.F) : World := ((((w.alloc (.cells (fw x) 161)).alloc (.cells (fw y) 161)).alloc (.cells (fw z) 161)).alloc (.cells (fw t) 161)).alloc (.cells ptZero 163)
theorem U5_x (w : World) (x y z t : Ed.F) : WAt (U5 w x y z t) w.heap.size x := WAt.below (alloc_at w _ _ rfl) (((((Below.refl (w.heap.size + 1) _).alloc (by simp) _).alloc (by simp) _).alloc (by simp) _).alloc (by simp) _) (by omega)
theorem U5_y (w : World) (x y z t : Ed.F) : WAt (U5 w x y z t) (w.heap.size + 1) y := WAt.below (alloc_at _ _ _ (by simp)) ((((Below.refl (w.heap.size + 2) _).alloc (by simp) _).alloc (by simp) _).alloc (by simp) _) (by omega)
theorem U5_z (w : World) (x y z t : Ed.F) : WAt (U5 w x y z t) (w.heap.size + 1 + 1) z := WAt.below (alloc_at _ _ _ (by simp)) (((Below.refl (w.heap.size + 3) _).alloc (by simp) _).alloc (by simp) _) (by omega)
theorem U5_t (w : World) (x y z t : Ed.F) : WAt (U5 w x y z t) (w.heap.size + 1 + 1 + 1) t := WAt.below (alloc_at _ _ _ (by simp)) ((Below.refl (w.heap.size + 4) _).alloc (by simp) _) (by omega)
theorem U5_r (w : World) (x y z t : Ed.F) : PAt (U5 w x y z t) (w.heap.size + 1 + 1 + 1 + 1) e0 := .zero (alloc_at _ _ _ (by simp))
theorem U5_b (w : World) (x y z t : Ed.F) : Below w.heap.size w (U5 w x y z t) := (((((Below.refl _ _).alloc (Nat.le_refl _) _).alloc (by simp) _).alloc (by simp; omega) _).alloc (by simp; omega) _).alloc (by simp; omega) _
set_option maxRecDepth 100000 in
set_option maxHeartbeats 1000000 in
theorem quot_f (x y z t : Ed.F) (w : World) :
  Calls Tryz.prog 238 #[.agg (fw x), .agg (fw y), .agg (fw z), .agg (fw t)] w fun e w' => e = .returned (.agg (pw (Ed.quot x y z t))) ∧ Below w.heap.size w w' := by
 have HV_e : Hid (WAt (U5 w x y z t) (w.heap.size) (x)) := U5_x w x y z t
 have HV_f : Hid (WAt (U5 w x y z t) (w.heap.size + 1) (y)) := U5_y w x y z t
 have HV_g : Hid (WAt (U5 w x y z t) (w.heap.size + 1 + 1) (z)) := U5_z w x y z t
 have HV_h : Hid (WAt (U5 w x y z t) (w.heap.size + 1 + 1 + 1) (t)) := U5_t w x y z t
 have HV_res : Hid (PAt (U5 w x y z t) (w.heap.size + 1 + 1 + 1 + 1) e0) := U5_r w x y z t
 have HB_ : Hid (Below w.heap.size w (U5 w x y z t)) := U5_b w x y z t
 go_enter Tryz.func238, Tryz.ntmps238
 go_wp2_with fail
 rename_i Kq hKq
 refine Qt.wp_tail 13 (by kernel_rfl) (by kernel_rfl) ?_
 refine y_word rfl _ rfl (w.heap.size) (x) rfl HV_e.out ?_
 refine y_word rfl _ rfl (w.heap.size + 1) (y) rfl HV_f.out ?_
 refine Qt.y_call rfl 179 #[.agg (fw (x)), .agg (fw (y))] _ (fun _ => by kernel_rfl) (fun w' _ => mul_f (x) (y) w') ?_
 simp only [Act.put, zA, zB, zC]
 refine y_word rfl _ rfl (w.heap.size + 1 + 1) (z) rfl HV_g.out ?_
 refine y_word rfl _ rfl (w.heap.size + 1 + 1 + 1) (t) rfl HV_h.out ?_
 refine Qt.y_call rfl 179 #[.agg (fw (z)), .agg (fw (t))] _ (fun _ => by kernel_rfl) (fun w' _ => mul_f (z) (t) w') ?_
 simp only [Act.put, zA, zB, zC]
 refine y_word rfl _ rfl (w.heap.size + 1) (y) rfl HV_f.out ?_
 refine y_word rfl _ rfl (w.heap.size + 1 + 1) (z) rfl HV_g.out ?_
 refine Qt.y_call rfl 179 #[.agg (fw (y)), .agg (fw (z))] _ (fun _ => by kernel_rfl) (fun w' _ => mul_f (y) (z) w') ?_
 simp only [Act.put, zA, zB, zC]
 refine y_word rfl _ rfl (w.heap.size) (x) rfl HV_e.out ?_
 refine y_word rfl _ rfl (w.heap.size + 1 + 1 + 1) (t) rfl HV_h.out ?_
 refine Qt.y_call rfl 179 #[.agg (fw (x)), .agg (fw (t))] _ (fun _ => by kernel_rfl) (fun w' _ => mul_f (x) (t) w') ?_
 simp only [Act.put, zA, zB, zC]
 refine y_build rfl _ rfl (Ed.quot x y z t) (by kernel_rfl) ?_
 simp only [Act.put, zA, zB, zC]
 refine Qt.y_nil ?_
 intro wz hb2
 have HX : Hid (Below (U5 w x y z t).heap.size (U5 w x y z t) wz) := hb2
 have HO : Hid (PAt wz (w.heap.size + 1 + 1 + 1 + 1) e0) := HV_res.out.below HX.out HV_res.out.lt
 refine store_p rfl _ _ rfl (w.heap.size + 1 + 1 + 1 + 1) (Ed.quot x y z t) e0 rfl rfl HO.out ?_
 simp only [Act.put]
 refine Qt.done ?_
 refine hKq _ _ ?_
 go_wp2_with fail
 exact ret_p Tryz.results238 rfl (w.heap.size + 1 + 1 + 1 + 1) (Ed.quot x y z t) rfl (HO.out.setRow _) ⟨rfl, below_store HB_.out HX.out _ (by omega) _⟩
set_option maxRecDepth 100000 in
set_option maxHeartbeats 1000000 in
theorem add_p (p q : Ed.E) (w : World) :
  Calls Tryz.prog 176 #[.agg (pw p), .agg (pw q)] w fun e w' => e = .returned (.agg (pw (Ed.eadd p q))) ∧ Below w.heap.size w w' := by
 have HV_p : Hid (PAt (V3 w p q) (w.heap.size) (p)) := V3_a w p q
 have HV_q : Hid (PAt (V3 w p q) (w.heap.size + 1) (q)) := V3_c w p q
 have HV_res : Hid (PAt (V3 w p q) (w.heap.size + 1 + 1) e0) := V3_r w p q
 have HB_ : Hid (Below w.heap.size w (V3 w p q)) := V3_b w p q
 go_enter Tryz.func176, Tryz.ntmps176
 go_wp2_with fail
 rename_i Kq hKq
 refine Qt.wp_let 11 (by kernel_rfl) (by kernel_rfl) _ rfl 161 rfl wordZero (by kernel_rfl) ?_
 refine Qt.y_val rfl (.pointer (some ⟨w.heap.size, 4, none⟩)) (fun _ _ => by kernel_rfl) ?_
 refine y_fld rfl _ rfl (w.heap.size) 4 ((p).y) rfl HV_p.out.lt HV_p.out.y ?_
 simp only [Act.put, zA, zB, zC]
 refine Qt.y_val rfl (.pointer (some ⟨w.heap.size, 0, none⟩)) (fun _ _ => by kernel_rfl) ?_
 refine y_fld rfl _ rfl (w.heap.size) 0 ((p).x) rfl HV_p.out.lt HV_p.out.x ?_
 simp only [Act.put, zA, zB, zC]
 refine Qt.y_call rfl 226 #[.agg (fw ((p).y)), .agg (fw ((p).x))] _ (fun _ => by kernel_rfl) (fun w' _ => sub_f ((p).y) ((p).x) w') ?_
 simp only [Act.put, zA, zB, zC]
 refine Qt.y_val rfl (.pointer (some ⟨w.heap.size + 1, 4, none⟩)) (fun _ _ => by kernel_rfl) ?_
 refine y_fld rfl _ rfl (w.heap.size + 1) 4 ((q).y) rfl HV_q.out.lt HV_q.out.y ?_
 simp only [Act.put, zA, zB, zC]
 refine Qt.y_val rfl (.pointer (some ⟨w.heap.size + 1, 0, none⟩)) (fun _ _ => by kernel_rfl) ?_
 refine y_fld rfl _ rfl (w.heap.size + 1) 0 ((q).x) rfl HV_q.out.lt HV_q.out.x ?_
 simp only [Act.put, zA, zB, zC]
 refine Qt.y_call rfl 226 #[.agg (fw ((q).y)), .agg (fw ((q).x))] _ (fun _ => by kernel_rfl) (fun w' _ => sub_f ((q).y) ((q).x) w') ?_
 simp only [Act.put, zA, zB, zC]
 refine Qt.y_call rfl 179 #[.agg (fw (((p).y) - ((p).x))), .agg (fw (((q).y) - ((q).x)))] _ (fun _ => by kernel_rfl) (fun w' _ => mul_f (((p).y) - ((p).x)) (((q).y) - ((q).x)) w') ?_
 simp only [Act.put, zA, zB, zC]
 skip
 refine Qt.y_nil ?_
 intro b1 wa1 hw1 hle hb
 have hw1 : Below (V3 w p q).heap.size (V3 w p q) wa1 := by first | exact hw1 | exact hw1.mono (by simp)
 have hle : (V3 w p q).heap.size ≤ b1 := by first | exact hle | exact Nat.le_trans (by simp) hle
 refine l_store rfl rfl b1 ((((p).y) - ((p).x)) * (((q).y) - ((q).x))) rfl rfl hw1 hle hb ?_
 intro w1 hW hb2
 have HX : Hid (Below (V3 w p q).heap.size (V3 w p q) w1) := hb2
 have HV1_a : Hid (WAt w1 b1 ((((p).y) - ((p).x)) * (((q).y) - ((q).x)))) := hW
 have HN_p_a : Hid (w.heap.size ≠ b1) := by have h1 := HV_p.out.lt; have h2 := hle; show _ ≠ _; omega
 have HN_q_a : Hid (w.heap.size + 1 ≠ b1) := by have h1 := HV_q.out.lt; have h2 := hle; show _ ≠ _; omega
 have HN_res_a : Hid (w.heap.size + 1 + 1 ≠ b1) := by have h1 := HV_res.out.lt; have h2 := hle; show _ ≠ _; omega
 have HG_a : Hid (w.heap.size ≤ b1) := Nat.le_trans HB_.out.size hle
 have HV1_p : Hid (PAt w1 (w.heap.size) (p)) := HV_p.out.below HX.out HV_p.out.lt
 have HV1_q : Hid (PAt w1 (w.heap.size + 1) (q)) := HV_q.out.below HX.out HV_q.out.lt
 have HV1_res : Hid (PAt w1 (w.heap.size + 1 + 1) e0) := HV_res.out.below HX.out HV_res.out.lt
 have HB_1 : Hid (Below w.heap.size w w1) := HB_.out.trans (HX.out.mono HB_.out.size)
 clear hW hb2 hb hle hw1 HX
 simp only [Act.put, zA, zB, zC]
 refine Qt.done ?_
 refine hKq _ _ ?_
 refine wp_seq ?_
 refine Qt.wp_let 11 (by kernel_rfl) (by kernel_rfl) _ rfl 161 rfl wordZero (by kernel_rfl) ?_
 refine Qt.y_val rfl (.pointer (some ⟨w.heap.size, 4, none⟩)) (fun _ _ => by kernel_rfl) ?_
 refine y_fld rfl _ rfl (w.heap.size) 4 ((p).y) rfl HV1_p.out.lt HV1_p.out.y ?_
 simp only [Act.put, zA, zB, zC]
 refine Qt.y_val rfl (.pointer (some ⟨w.heap.size, 0, none⟩)) (fun _ _ => by kernel_rfl) ?_
 refine y_fld rfl _ rfl (w.heap.size) 0 ((p).x) rfl HV1_p.out.lt HV1_p.out.x ?_
 simp only [Act.put, zA, zB, zC]
 refine Qt.y_call rfl 229 #[.agg (fw ((p).y)), .agg (fw ((p).x))] _ (fun _ => by kernel_rfl) (fun w' _ => add_f ((p).y) ((p).x) w') ?_
 simp only [Act.put, zA, zB, zC]
 refine Qt.y_val rfl (.pointer (some ⟨w.heap.size + 1, 4, none⟩)) (fun _ _ => by kernel_rfl) ?_
 refine y_fld rfl _ rfl (w.heap.size + 1) 4 ((q).y) rfl HV1_q.out.lt HV1_q.out.y ?_
 simp only [Act.put, zA, zB, zC]
 refine Qt.y_val rfl (.pointer (some ⟨w.heap.size + 1, 0, none⟩)) (fun _ _ => by kernel_rfl) ?_
 refine y_fld rfl _ rfl (w.heap.size + 1) 0 ((q).x) rfl HV1_q.out.lt HV1_q.out.x ?_
 simp only [Act.put, zA, zB, zC]
 refine Qt.y_call rfl 229 #[.agg (fw ((q).y)), .agg (fw ((q).x))] _ (fun _ => by kernel_rfl) (fun w' _ => add_f ((q).y) ((q).x) w') ?_
 simp only [Act.put, zA, zB, zC]
 refine Qt.y_call rfl 179 #[.agg (fw (((p).y) + ((p).x))), .agg (fw (((q).y) + ((q).x)))] _ (fun _ => by kernel_rfl) (fun w' _ => mul_f (((p).y) + ((p).x)) (((q).y) + ((q).x)) w') ?_
 simp only [Act.put, zA, zB, zC]
 skip
 refine Qt.y_nil ?_
 intro b2 wa2 hw1 hle hb
 have hw1 : Below (w1).heap.size (w1) wa2 := by first | exact hw1 | exact hw1.mono (by simp)
 have hle : (w1).heap.size ≤ b2 := by first | exact hle | exact Nat.le_trans (by simp) hle
 refine l_store rfl rfl b2 ((((p).y) + ((p).x)) * (((q).y) + ((q).x))) rfl rfl hw1 hle hb ?_
 intro w2 hW hb2
 have HX : Hid (Below (w1).heap.size (w1) w2) := hb2
 have HV2_b : Hid (WAt w2 b2 ((((p).y) + ((p).x)) * (((q).y) + ((q).x)))) := hW
 have HN_p_b : Hid (w.heap.size ≠ b2) := by have h1 := HV1_p.out.lt; have h2 := hle; show _ ≠ _; omega
 have HN_q_b : Hid (w.heap.size + 1 ≠ b2) := by have h1 := HV1_q.out.lt; have h2 := hle; show _ ≠ _; omega
 have HN_a_b : Hid (b1 ≠ b2) := by have h1 := HV1_a.out.lt; have h2 := hle; show _ ≠ _; omega
 have HN_res_b : Hid (w.heap.size + 1 + 1 ≠ b2) := by have h1 := HV1_res.out.lt; have h2 := hle; show _ ≠ _; omega
 have HG_b : Hid (w.heap.size ≤ b2) := Nat.le_trans HB_1.out.size hle
 have HV2_p : Hid (PAt w2 (w.heap.size) (p)) := HV1_p.out.below HX.out HV1_p.out.lt
 have HV2_q : Hid (PAt w2 (w.heap.size + 1) (q)) := HV1_q.out.below HX.out HV1_q.out.lt
 have HV2_a : Hid (WAt w2 (b1) ((((p).y) - ((p).x)) * (((q).y) - ((q).x)))) := HV1_a.out.below HX.out HV1_a.out.lt
 have HV2_res : Hid (PAt w2 (w.heap.size + 1 + 1) e0) := HV1_res.out.below HX.out HV1_res.out.lt
 have HB_2 : Hid (Below w.heap.size w w2) := HB_1.out.trans (HX.out.mono HB_1.out.size)
 clear hW hb2 hb hle hw1 HX
 simp only [Act.put, zA, zB, zC]
 refine Qt.done ?_
 refine wp_seq ?_
 refine Qt.wp_let 7 (by kernel_rfl) (by kernel_rfl) _ rfl 161 rfl wordZero (by kernel_rfl) ?_
 refine Qt.y_val rfl (.pointer (some ⟨w.heap.size, 12, none⟩)) (fun _ _ => by kernel_rfl) ?_
 refine y_fld rfl _ rfl (w.heap.size) 12 ((p).t) rfl HV2_p.out.lt HV2_p.out.t ?_
 simp only [Act.put, zA, zB, zC]
 refine Qt.y_call rfl 239 #[] (.agg (fw (Ed.dD + Ed.dD))) (fun _ => by kernel_rfl) (fun w' _ => tf_f w') ?_
 simp only [Act.put, zA, zB, zC]
 refine Qt.y_call rfl 179 #[.agg (fw ((p).t)), .agg (fw (Ed.dD + Ed.dD))] _ (fun _ => by kernel_rfl) (fun w' _ => mul_f ((p).t) (Ed.dD + Ed.dD) w') ?_
 simp only [Act.put, zA, zB, zC]
 refine Qt.y_val rfl (.pointer (some ⟨w.heap.size + 1, 12, none⟩)) (fun _ _ => by kernel_rfl) ?_
 refine y_fld rfl _ rfl (w.heap.size + 1) 12 ((q).t) rfl HV2_q.out.lt HV2_q.out.t ?_
 simp only [Act.put, zA, zB, zC]
 refine Qt.y_call rfl 179 #[.agg (fw (((p).t) * (Ed.dD + Ed.dD))), .agg (fw ((q).t))] _ (fun _ => by kernel_rfl) (fun w' _ => mul_f (((p).t) * (Ed.dD + Ed.dD)) ((q).t) w') ?_
 simp only [Act.put, zA, zB, zC]
 skip
 refine Qt.y_nil ?_
 intro b3 wa3 hw1 hle hb
 have hw1 : Below (w2).heap.size (w2) wa3 := by first | exact hw1 | exact hw1.mono (by simp)
 have hle : (w2).heap.size ≤ b3 := by first | exact hle | exact Nat.le_trans (by simp) hle
 refine l_store rfl rfl b3 ((((p).t) * (Ed.dD + Ed.dD)) * ((q).t)) rfl rfl hw1 hle hb ?_
 intro w3 hW hb2
 have HX : Hid (Below (w2).heap.size (w2) w3) := hb2
 have HV3_c : Hid (WAt w3 b3 ((((p).t) * (Ed.dD + Ed.dD)) * ((q).t))) := hW
 have HN_p_c : Hid (w.heap.size ≠ b3) := by have h1 := HV2_p.out.lt; have h2 := hle; show _ ≠ _; omega
 have HN_q_c : Hid (w.heap.size + 1 ≠ b3) := by have h1 := HV2_q.out.lt; have h2 := hle; show _ ≠ _; omega
 have HN_a_c : Hid (b1 ≠ b3) := by have h1 := HV2_a.out.lt; have h2 := hle; show _ ≠ _; omega
 have HN_b_c : Hid (b2 ≠ b3) := by have h1 := HV2_b.out.lt; have h2 := hle; show _ ≠ _; omega
 have HN_res_c : Hid (w.heap.size + 1 + 1 ≠ b3) := by have h1 := HV2_res.out.lt; have h2 := hle; show _ ≠ _; omega
 have HG_c : Hid (w.heap.size ≤ b3) := Nat.le_trans HB_2.out.size hle
 have HV3_p : Hid (PAt w3 (w.heap.size) (p)) := HV2_p.out.below HX.out HV2_p.out.lt
 have HV3_q : Hid (PAt w3 (w.heap.size + 1) (q)) := HV2_q.out.below HX.out HV2_q.out.lt
 have HV3_a : Hid (WAt w3 (b1) ((((p).y) - ((p).x)) * (((q).y) - ((q).x)))) := HV2_a.out.below HX.out HV2_a.out.lt
 have HV3_b : Hid (WAt w3 (b2) ((((p).y) + ((p).x)) * (((q).y) + ((q).x)))) := HV2_b.out.below HX.out HV2_b.out.lt
 have HV3_res : Hid (PAt w3 (w.heap.size + 1 + 1) e0) := HV2_res.out.below HX.out HV2_res.out.lt
 have HB_3 : Hid (Below w.heap.size w w3) := HB_2.out.trans (HX.out.mono HB_2.out.size)
 clear hW hb2 hb hle hw1 HX
 simp only [Act.put, zA, zB, zC]
 refine Qt.done ?_
 refine wp_seq ?_
 refine Qt.wp_letU 5 _ rfl 161 rfl wordZero (by kernel_rfl) rfl ?_
 refine Qt.y_val rfl (.pointer (some ⟨w.heap.size, 8, none⟩)) (fun _ _ => by kernel_rfl) ?_
 refine y_fld rfl _ rfl (w.heap.size) 8 ((p).z) rfl HV3_p.out.lt HV3_p.out.z ?_
 simp only [Act.put, zA, zB, zC]
 refine Qt.y_val rfl (.pointer (some ⟨w.heap.size + 1, 8, none⟩)) (fun _ _ => by kernel_rfl) ?_
 refine y_fld rfl _ rfl (w.heap.size + 1) 8 ((q).z) rfl HV3_q.out.lt HV3_q.out.z ?_
 simp only [Act.put, zA, zB, zC]
 refine Qt.y_call rfl 179 #[.agg (fw ((p).z)), .agg (fw ((q).z))] _ (fun _ => by kernel_rfl) (fun w' _ => mul_f ((p).z) ((q).z) w') ?_
 simp only [Act.put, zA, zB, zC]
 skip
 refine Qt.y_nil ?_
 intro b4 wa4 hw1 hle hb
 have hw1 : Below (w3).heap.size (w3) wa4 := by first | exact hw1 | exact hw1.mono (by simp)
 have hle : (w3).heap.size ≤ b4 := by first | exact hle | exact Nat.le_trans (by simp) hle
 refine l_store rfl rfl b4 (((p).z) * ((q).z)) rfl rfl hw1 hle hb ?_
 intro w4 hW hb2
 have HX : Hid (Below (w3).heap.size (w3) w4) := hb2
 have HV4_d : Hid (WAt w4 b4 (((p).z) * ((q).z))) := hW
 have HN_p_d : Hid (w.heap.size ≠ b4) := by have h1 := HV3_p.out.lt; have h2 := hle; show _ ≠ _; omega
 have HN_q_d : Hid (w.heap.size + 1 ≠ b4) := by have h1 := HV3_q.out.lt; have h2 := hle; show _ ≠ _; omega
 have HN_a_d : Hid (b1 ≠ b4) := by have h1 := HV3_a.out.lt; have h2 := hle; show _ ≠ _; omega
 have HN_b_d : Hid (b2 ≠ b4) := by have h1 := HV3_b.out.lt; have h2 := hle; show _ ≠ _; omega
 have HN_c_d : Hid (b3 ≠ b4) := by have h1 := HV3_c.out.lt; have h2 := hle; show _ ≠ _; omega
 have HN_res_d : Hid (w.heap.size + 1 + 1 ≠ b4) := by have h1 := HV3_res.out.lt; have h2 := hle; show _ ≠ _; omega
 have HG_d : Hid (w.heap.size ≤ b4) := Nat.le_trans HB_3.out.size hle
 have HV4_p : Hid (PAt w4 (w.heap.size) (p)) := HV3_p.out.below HX.out HV3_p.out.lt
 have HV4_q : Hid (PAt w4 (w.heap.size + 1) (q)) := HV3_q.out.below HX.out HV3_q.out.lt
 have HV4_a : Hid (WAt w4 (b1) ((((p).y) - ((p).x)) * (((q).y) - ((q).x)))) := HV3_a.out.below HX.out HV3_a.out.lt
 have HV4_b : Hid (WAt w4 (b2) ((((p).y) + ((p).x)) * (((q).y) + ((q).x)))) := HV3_b.out.below HX.out HV3_b.out.lt
 have HV4_c : Hid (WAt w4 (b3) ((((p).t) * (Ed.dD + Ed.dD)) * ((q).t))) := HV3_c.out.below HX.out HV3_c.out.lt
 have HV4_res : Hid (PAt w4 (w.heap.size + 1 + 1) e0) := HV3_res.out.below HX.out HV3_res.out.lt
 have HB_4 : Hid (Below w.heap.size w w4) := HB_3.out.trans (HX.out.mono HB_3.out.size)
 clear hW hb2 hb hle hw1 HX
 simp only [Act.put, zA, zB, zC]
 refine Qt.done ?_
 refine wp_seq ?_
 refine Qt.wp_plain 3 ?_
 refine y_word rfl _ rfl (b4) (((p).z) * ((q).z)) rfl HV4_d.out ?_
 refine y_word rfl _ rfl (b4) (((p).z) * ((q).z)) rfl HV4_d.out ?_
 refine Qt.y_call rfl 229 #[.agg (fw (((p).z) * ((q).z))), .agg (fw (((p).z) * ((q).z)))] _ (fun _ => by kernel_rfl) (fun w' _ => add_f (((p).z) * ((q).z)) (((p).z) * ((q).z)) w') ?_
 simp only [Act.put, zA, zB, zC]
 skip
 refine Qt.y_nil ?_
 intro wa5 hb2
 have HX : Hid (Below (w4).heap.size (w4) wa5) := by first | exact hb2 | exact hb2.mono (by simp)
 have HO : Hid (WAt wa5 (b4) (((p).z) * ((q).z))) := HV4_d.out.below HX.out HV4_d.out.lt
 refine store_w rfl _ _ rfl (b4) ((((p).z) * ((q).z)) + (((p).z) * ((q).z))) (((p).z) * ((q).z)) rfl rfl HO.out ?_
 obtain ⟨w5, hw2⟩ : ∃ w2, w2 = wa5.setRow (b4) (fw ((((p).z) * ((q).z)) + (((p).z) * ((q).z)))) := ⟨_, rfl⟩
 rw [← hw2]
 have HV5_d : Hid (WAt w5 (b4) ((((p).z) * ((q).z)) + (((p).z) * ((q).z)))) := by rw [hw2]; exact HO.out.setRow _
 have HV5_p : Hid (PAt w5 (w.heap.size) (p)) := by rw [hw2]; exact (HV4_p.out.below HX.out HV4_p.out.lt).other HN_p_d.out _
 have HV5_q : Hid (PAt w5 (w.heap.size + 1) (q)) := by rw [hw2]; exact (HV4_q.out.below HX.out HV4_q.out.lt).other HN_q_d.out _
 have HV5_a : Hid (WAt w5 (b1) ((((p).y) - ((p).x)) * (((q).y) - ((q).x)))) := by rw [hw2]; exact (HV4_a.out.below HX.out HV4_a.out.lt).other HN_a_d.out _
 have HV5_b : Hid (WAt w5 (b2) ((((p).y) + ((p).x)) * (((q).y) + ((q).x)))) := by rw [hw2]; exact (HV4_b.out.below HX.out HV4_b.out.lt).other HN_b_d.out _
 have HV5_c : Hid (WAt w5 (b3) ((((p).t) * (Ed.dD + Ed.dD)) * ((q).t))) := by rw [hw2]; exact (HV4_c.out.below HX.out HV4_c.out.lt).other HN_c_d.out _
 have HV5_res : Hid (PAt w5 (w.heap.size + 1 + 1) (e0)) := by rw [hw2]; exact (HV4_res.out.below HX.out HV4_res.out.lt).other HN_res_d.out _
 have HB_5 : Hid (Below w.heap.size w w5) := by rw [hw2]; exact (HB_4.out.trans (HX.out.mono HB_4.out.size)).trans ((below_setRow _ _ _).mono HG_d.out)
 clear hb2 HX HO hw2
 simp only [Act.put]
 refine Qt.done ?_
 refine wp_seq ?_
 refine Qt.wp_tail 13 (by kernel_rfl) (by kernel_rfl) ?_
 refine y_word rfl _ rfl (b2) ((((p).y) + ((p).x)) * (((q).y) + ((q).x))) rfl HV5_b.out ?_
 refine y_word rfl _ rfl (b1) ((((p).y) - ((p).x)) * (((q).y) - ((q).x))) rfl HV5_a.out ?_
 refine Qt.y_call rfl 226 #[.agg (fw ((((p).y) + ((p).x)) * (((q).y) + ((q).x)))), .agg (fw ((((p).y) - ((p).x)) * (((q).y) - ((q).x))))] _ (fun _ => by kernel_rfl) (fun w' _ => sub_f ((((p).y) + ((p).x)) * (((q).y) + ((q).x))) ((((p).y) - ((p).x)) * (((q).y) - ((q).x))) w') ?_
 simp only [Act.put, zA, zB, zC]
 refine y_word rfl _ rfl (b4) ((((p).z) * ((q).z)) + (((p).z) * ((q).z))) rfl HV5_d.out ?_
 refine y_word rfl _ rfl (b3) ((((p).t) * (Ed.dD + Ed.dD)) * ((q).t)) rfl HV5_c.out ?_
 refine Qt.y_call rfl 226 #[.agg (fw ((((p).z) * ((q).z)) + (((p).z) * ((q).z)))), .agg (fw ((((p).t) * (Ed.dD + Ed.dD)) * ((q).t)))] _ (fun _ => by kernel_rfl) (fun w' _ => sub_f ((((p).z) * ((q).z)) + (((p).z) * ((q).z))) ((((p).t) * (Ed.dD + Ed.dD)) * ((q).t)) w') ?_
 simp only [Act.put, zA, zB, zC]
 refine y_word rfl _ rfl (b4) ((((p).z) * ((q).z)) + (((p).z) * ((q).z))) rfl HV5_d.out ?_
 refine y_word rfl _ rfl (b3) ((((p).t) * (Ed.dD + Ed.dD)) * ((q).t)) rfl HV5_c.out ?_
 refine Qt.y_call rfl 229 #[.agg (fw ((((p).z) * ((q).z)) + (((p).z) * ((q).z)))), .agg (fw ((((p).t) * (Ed.dD + Ed.dD)) * ((q).t)))] _ (fun _ => by kernel_rfl) (fun w' _ => add_f ((((p).z) * ((q).z)) + (((p).z) * ((q).z))) ((((p).t) * (Ed.dD + Ed.dD)) * ((q).t)) w') ?_
 simp only [Act.put, zA, zB, zC]
 refine y_word rfl _ rfl (b2) ((((p).y) + ((p).x)) * (((q).y) + ((q).x))) rfl HV5_b.out ?_
 refine y_word rfl _ rfl (b1) ((((p).y) - ((p).x)) * (((q).y) - ((q).x))) rfl HV5_a.out ?_
 refine Qt.y_call rfl 229 #[.agg (fw ((((p).y) + ((p).x)) * (((q).y) + ((q).x)))), .agg (fw ((((p).y) - ((p).x)) * (((q).y) - ((q).x))))] _ (fun _ => by kernel_rfl) (fun w' _ => add_f ((((p).y) + ((p).x)) * (((q).y) + ((q).x))) ((((p).y) - ((p).x)) * (((q).y) - ((q).x))) w') ?_
 simp only [Act.put, zA, zB, zC]
 refine Qt.y_call rfl 238 #[.agg (fw (((((p).y) + ((p).x)) * (((q).y) + ((q).x))) - ((((p).y) - ((p).x)) * (((q).y) - ((q).x))))), .agg (fw (((((p).z) * ((q).z)) + (((p).z) * ((q).z))) - ((((p).t) * (Ed.dD + Ed.dD)) * ((q).t)))), .agg (fw (((((p).z) * ((q).z)) + (((p).z) * ((q).z))) + ((((p).t) * (Ed.dD + Ed.dD)) * ((q).t)))), .agg (fw (((((p).y) + ((p).x)) * (((q).y) + ((q).x))) + ((((p).y) - ((p).x)) * (((q).y) - ((q).x)))))] (.agg (pw (Ed.quot (((((p).y) + ((p).x)) * (((q).y) + ((q).x))) - ((((p).y) - ((p).x)) * (((q).y) - ((q).x)))) (((((p).z) * ((q).z)) + (((p).z) * ((q).z))) - ((((p).t) * (Ed.dD + Ed.dD)) * ((q).t))) (((((p).z) * ((q).z)) + (((p).z) * ((q).z))) + ((((p).t) * (Ed.dD + Ed.dD)) * ((q).t))) (((((p).y) + ((p).x)) * (((q).y) + ((q).x))) + ((((p).y) - ((p).x)) * (((q).y) - ((q).x))))))) (fun _ => by kernel_rfl) (fun w' _ => quot_f (((((p).y) + ((p).x)) * (((q).y) + ((q).x))) - ((((p).y) - ((p).x)) * (((q).y) - ((q).x)))) (((((p).z) * ((q).z)) + (((p).z) * ((q).z))) - ((((p).t) * (Ed.dD + Ed.dD)) * ((q).t))) (((((p).z) * ((q).z)) + (((p).z) * ((q).z))) + ((((p).t) * (Ed.dD + Ed.dD)) * ((q).t))) (((((p).y) + ((p).x)) * (((q).y) + ((q).x))) + ((((p).y) - ((p).x)) * (((q).y) - ((q).x)))) w') ?_
 simp only [Act.put, zA, zB, zC]
 skip
 refine Qt.y_nil ?_
 intro wz hb2
 have HX : Hid (Below (w5).heap.size (w5) wz) := by first | exact hb2 | exact hb2.mono (by simp)
 have HO : Hid (PAt wz (w.heap.size + 1 + 1) e0) := HV5_res.out.below HX.out HV5_res.out.lt
 refine store_p rfl _ _ rfl (w.heap.size + 1 + 1) (Ed.eadd p q) e0 rfl rfl HO.out ?_
 simp only [Act.put]
 refine Qt.done ?_
 go_wp2_with fail
 exact ret_p Tryz.results176 rfl (w.heap.size + 1 + 1) (Ed.eadd p q) rfl (HO.out.setRow _) ⟨rfl, below_store HB_5.out HX.out _ (by omega) _⟩
set_option maxRecDepth 100000 in
set_option maxHeartbeats 1000000 in
theorem dbl_p (p : Ed.E) (w : World) :
  Calls Tryz.prog 175 #[.agg (pw p)] w fun e w' => e = .returned (.agg (pw (Ed.edbl p))) ∧ Below w.heap.size w w' := by
 have HV_p : Hid (PAt (V2 w p) (w.heap.size) (p)) := V2_a w p
 have HV_res : Hid (PAt (V2 w p) (w.heap.size + 1) e0) := V2_r w p
 have HB_ : Hid (Below w.heap.size w (V2 w p)) := V2_b w p
 go_enter Tryz.func175, Tryz.ntmps175
 go_wp2_with (refine Qt.wp_letL 3 _ rfl 161 rfl wordZero (by kernel_rfl) rfl ?_)
 rename_i Kq hKq
 refine Qt.y_val rfl (.pointer (some ⟨w.heap.size, 0, none⟩)) (fun _ _ => by kernel_rfl) ?_
 refine y_fld rfl _ rfl (w.heap.size) 0 ((p).x) rfl HV_p.out.lt HV_p.out.x ?_
 simp only [Act.put, zA, zB, zC]
 refine Qt.y_call rfl 224 #[.agg (fw ((p).x))] _ (fun _ => by kernel_rfl) (fun w' _ => square_f ((p).x) w') ?_
 simp only [Act.put, zA, zB, zC]
 skip
 refine Qt.y_nil ?_
 intro b1 wa1 hw1 hle hb
 have hw1 : Below (V2 w p).heap.size (V2 w p) wa1 := by first | exact hw1 | exact hw1.mono (by simp)
 have hle : (V2 w p).heap.size ≤ b1 := by first | exact hle | exact Nat.le_trans (by simp) hle
 refine l_store rfl rfl b1 (((p).x) * ((p).x)) rfl rfl hw1 hle hb ?_
 intro w1 hW hb2
 have HX : Hid (Below (V2 w p).heap.size (V2 w p) w1) := hb2
 have HV1_a : Hid (WAt w1 b1 (((p).x) * ((p).x))) := hW
 have HN_p_a : Hid (w.heap.size ≠ b1) := by have h1 := HV_p.out.lt; have h2 := hle; show _ ≠ _; omega
 have HN_res_a : Hid (w.heap.size + 1 ≠ b1) := by have h1 := HV_res.out.lt; have h2 := hle; show _ ≠ _; omega
 have HG_a : Hid (w.heap.size ≤ b1) := Nat.le_trans HB_.out.size hle
 have HV1_p : Hid (PAt w1 (w.heap.size) (p)) := HV_p.out.below HX.out HV_p.out.lt
 have HV1_res : Hid (PAt w1 (w.heap.size + 1) e0) := HV_res.out.below HX.out HV_res.out.lt
 have HB_1 : Hid (Below w.heap.size w w1) := HB_.out.trans (HX.out.mono HB_.out.size)
 clear hW hb2 hb hle hw1 HX
 simp only [Act.put, zA, zB, zC]
 refine Qt.done ?_
 refine hKq _ _ ?_
 refine wp_seq ?_
 refine Qt.wp_letU 3 _ rfl 161 rfl wordZero (by kernel_rfl) rfl ?_
 refine Qt.y_val rfl (.pointer (some ⟨w.heap.size, 4, none⟩)) (fun _ _ => by kernel_rfl) ?_
 refine y_fld rfl _ rfl (w.heap.size) 4 ((p).y) rfl HV1_p.out.lt HV1_p.out.y ?_
 simp only [Act.put, zA, zB, zC]
 refine Qt.y_call rfl 224 #[.agg (fw ((p).y))] _ (fun _ => by kernel_rfl) (fun w' _ => square_f ((p).y) w') ?_
 simp only [Act.put, zA, zB, zC]
 skip
 refine Qt.y_nil ?_
 intro b2 wa2 hw1 hle hb
 have hw1 : Below (w1).heap.size (w1) wa2 := by first | exact hw1 | exact hw1.mono (by simp)
 have hle : (w1).heap.size ≤ b2 := by first | exact hle | exact Nat.le_trans (by simp) hle
 refine l_store rfl rfl b2 (((p).y) * ((p).y)) rfl rfl hw1 hle hb ?_
 intro w2 hW hb2
 have HX : Hid (Below (w1).heap.size (w1) w2) := hb2
 have HV2_b : Hid (WAt w2 b2 (((p).y) * ((p).y))) := hW
 have HN_p_b : Hid (w.heap.size ≠ b2) := by have h1 := HV1_p.out.lt; have h2 := hle; show _ ≠ _; omega
 have HN_a_b : Hid (b1 ≠ b2) := by have h1 := HV1_a.out.lt; have h2 := hle; show _ ≠ _; omega
 have HN_res_b : Hid (w.heap.size + 1 ≠ b2) := by have h1 := HV1_res.out.lt; have h2 := hle; show _ ≠ _; omega
 have HG_b : Hid (w.heap.size ≤ b2) := Nat.le_trans HB_1.out.size hle
 have HV2_p : Hid (PAt w2 (w.heap.size) (p)) := HV1_p.out.below HX.out HV1_p.out.lt
 have HV2_a : Hid (WAt w2 (b1) (((p).x) * ((p).x))) := HV1_a.out.below HX.out HV1_a.out.lt
 have HV2_res : Hid (PAt w2 (w.heap.size + 1) e0) := HV1_res.out.below HX.out HV1_res.out.lt
 have HB_2 : Hid (Below w.heap.size w w2) := HB_1.out.trans (HX.out.mono HB_1.out.size)
 clear hW hb2 hb hle hw1 HX
 simp only [Act.put, zA, zB, zC]
 refine Qt.done ?_
 refine wp_seq ?_
 refine Qt.wp_letU 3 _ rfl 161 rfl wordZero (by kernel_rfl) rfl ?_
 refine Qt.y_val rfl (.pointer (some ⟨w.heap.size, 8, none⟩)) (fun _ _ => by kernel_rfl) ?_
 refine y_fld rfl _ rfl (w.heap.size) 8 ((p).z) rfl HV2_p.out.lt HV2_p.out.z ?_
 simp only [Act.put, zA, zB, zC]
 refine Qt.y_call rfl 224 #[.agg (fw ((p).z))] _ (fun _ => by kernel_rfl) (fun w' _ => square_f ((p).z) w') ?_
 simp only [Act.put, zA, zB, zC]
 skip
 refine Qt.y_nil ?_
 intro b3 wa3 hw1 hle hb
 have hw1 : Below (w2).heap.size (w2) wa3 := by first | exact hw1 | exact hw1.mono (by simp)
 have hle : (w2).heap.size ≤ b3 := by first | exact hle | exact Nat.le_trans (by simp) hle
 refine l_store rfl rfl b3 (((p).z) * ((p).z)) rfl rfl hw1 hle hb ?_
 intro w3 hW hb2
 have HX : Hid (Below (w2).heap.size (w2) w3) := hb2
 have HV3_c : Hid (WAt w3 b3 (((p).z) * ((p).z))) := hW
 have HN_p_c : Hid (w.heap.size ≠ b3) := by have h1 := HV2_p.out.lt; have h2 := hle; show _ ≠ _; omega
 have HN_a_c : Hid (b1 ≠ b3) := by have h1 := HV2_a.out.lt; have h2 := hle; show _ ≠ _; omega
 have HN_b_c : Hid (b2 ≠ b3) := by have h1 := HV2_b.out.lt; have h2 := hle; show _ ≠ _; omega
 have HN_res_c : Hid (w.heap.size + 1 ≠ b3) := by have h1 := HV2_res.out.lt; have h2 := hle; show _ ≠ _; omega
 have HG_c : Hid (w.heap.size ≤ b3) := Nat.le_trans HB_2.out.size hle
 have HV3_p : Hid (PAt w3 (w.heap.size) (p)) := HV2_p.out.below HX.out HV2_p.out.lt
 have HV3_a : Hid (WAt w3 (b1) (((p).x) * ((p).x))) := HV2_a.out.below HX.out HV2_a.out.lt
 have HV3_b : Hid (WAt w3 (b2) (((p).y) * ((p).y))) := HV2_b.out.below HX.out HV2_b.out.lt
 have HV3_res : Hid (PAt w3 (w.heap.size + 1) e0) := HV2_res.out.below HX.out HV2_res.out.lt
 have HB_3 : Hid (Below w.heap.size w w3) := HB_2.out.trans (HX.out.mono HB_2.out.size)
 clear hW hb2 hb hle hw1 HX
 simp only [Act.put, zA, zB, zC]
 refine Qt.done ?_
 refine wp_seq ?_
 refine Qt.wp_plain 3 ?_
 refine y_word rfl _ rfl (b3) (((p).z) * ((p).z)) rfl HV3_c.out ?_
 refine y_word rfl _ rfl (b3) (((p).z) * ((p).z)) rfl HV3_c.out ?_
 refine Qt.y_call rfl 229 #[.agg (fw (((p).z) * ((p).z))), .agg (fw (((p).z) * ((p).z)))] _ (fun _ => by kernel_rfl) (fun w' _ => add_f (((p).z) * ((p).z)) (((p).z) * ((p).z)) w') ?_
 simp only [Act.put, zA, zB, zC]
 skip
 refine Qt.y_nil ?_
 intro wa4 hb2
 have HX : Hid (Below (w3).heap.size (w3) wa4) := by first | exact hb2 | exact hb2.mono (by simp)
 have HO : Hid (WAt wa4 (b3) (((p).z) * ((p).z))) := HV3_c.out.below HX.out HV3_c.out.lt
 refine store_w rfl _ _ rfl (b3) ((((p).z) * ((p).z)) + (((p).z) * ((p).z))) (((p).z) * ((p).z)) rfl rfl HO.out ?_
 obtain ⟨w4, hw2⟩ : ∃ w2, w2 = wa4.setRow (b3) (fw ((((p).z) * ((p).z)) + (((p).z) * ((p).z)))) := ⟨_, rfl⟩
 rw [← hw2]
 have HV4_c : Hid (WAt w4 (b3) ((((p).z) * ((p).z)) + (((p).z) * ((p).z)))) := by rw [hw2]; exact HO.out.setRow _
 have HV4_p : Hid (PAt w4 (w.heap.size) (p)) := by rw [hw2]; exact (HV3_p.out.below HX.out HV3_p.out.lt).other HN_p_c.out _
 have HV4_a : Hid (WAt w4 (b1) (((p).x) * ((p).x))) := by rw [hw2]; exact (HV3_a.out.below HX.out HV3_a.out.lt).other HN_a_c.out _
 have HV4_b : Hid (WAt w4 (b2) (((p).y) * ((p).y))) := by rw [hw2]; exact (HV3_b.out.below HX.out HV3_b.out.lt).other HN_b_c.out _
 have HV4_res : Hid (PAt w4 (w.heap.size + 1) (e0)) := by rw [hw2]; exact (HV3_res.out.below HX.out HV3_res.out.lt).other HN_res_c.out _
 have HB_4 : Hid (Below w.heap.size w w4) := by rw [hw2]; exact (HB_3.out.trans (HX.out.mono HB_3.out.size)).trans ((below_setRow _ _ _).mono HG_c.out)
 clear hb2 HX HO hw2
 simp only [Act.put]
 refine Qt.done ?_
 refine wp_seq ?_
 refine Qt.wp_let 10 (by kernel_rfl) (by kernel_rfl) _ rfl 161 rfl wordZero (by kernel_rfl) ?_
 refine Qt.y_val rfl (.pointer (some ⟨w.heap.size, 0, none⟩)) (fun _ _ => by kernel_rfl) ?_
 refine y_fld rfl _ rfl (w.heap.size) 0 ((p).x) rfl HV4_p.out.lt HV4_p.out.x ?_
 simp only [Act.put, zA, zB, zC]
 refine Qt.y_val rfl (.pointer (some ⟨w.heap.size, 4, none⟩)) (fun _ _ => by kernel_rfl) ?_
 refine y_fld rfl _ rfl (w.heap.size) 4 ((p).y) rfl HV4_p.out.lt HV4_p.out.y ?_
 simp only [Act.put, zA, zB, zC]
 refine Qt.y_call rfl 229 #[.agg (fw ((p).x)), .agg (fw ((p).y))] _ (fun _ => by kernel_rfl) (fun w' _ => add_f ((p).x) ((p).y) w') ?_
 simp only [Act.put, zA, zB, zC]
 refine Qt.y_call rfl 224 #[.agg (fw (((p).x) + ((p).y)))] _ (fun _ => by kernel_rfl) (fun w' _ => square_f (((p).x) + ((p).y)) w') ?_
 simp only [Act.put, zA, zB, zC]
 refine y_word rfl _ rfl (b1) (((p).x) * ((p).x)) rfl HV4_a.out ?_
 refine Qt.y_call rfl 226 #[.agg (fw ((((p).x) + ((p).y)) * (((p).x) + ((p).y)))), .agg (fw (((p).x) * ((p).x)))] _ (fun _ => by kernel_rfl) (fun w' _ => sub_f ((((p).x) + ((p).y)) * (((p).x) + ((p).y))) (((p).x) * ((p).x)) w') ?_
 simp only [Act.put, zA, zB, zC]
 refine y_word rfl _ rfl (b2) (((p).y) * ((p).y)) rfl HV4_b.out ?_
 refine Qt.y_call rfl 226 #[.agg (fw (((((p).x) + ((p).y)) * (((p).x) + ((p).y))) - (((p).x) * ((p).x)))), .agg (fw (((p).y) * ((p).y)))] _ (fun _ => by kernel_rfl) (fun w' _ => sub_f (((((p).x) + ((p).y)) * (((p).x) + ((p).y))) - (((p).x) * ((p).x))) (((p).y) * ((p).y)) w') ?_
 simp only [Act.put, zA, zB, zC]
 skip
 refine Qt.y_nil ?_
 intro b5 wa5 hw1 hle hb
 have hw1 : Below (w4).heap.size (w4) wa5 := by first | exact hw1 | exact hw1.mono (by simp)
 have hle : (w4).heap.size ≤ b5 := by first | exact hle | exact Nat.le_trans (by simp) hle
 refine l_store rfl rfl b5 ((((((p).x) + ((p).y)) * (((p).x) + ((p).y))) - (((p).x) * ((p).x))) - (((p).y) * ((p).y))) rfl rfl hw1 hle hb ?_
 intro w5 hW hb2
 have HX : Hid (Below (w4).heap.size (w4) w5) := hb2
 have HV5_e : Hid (WAt w5 b5 ((((((p).x) + ((p).y)) * (((p).x) + ((p).y))) - (((p).x) * ((p).x))) - (((p).y) * ((p).y)))) := hW
 have HN_p_e : Hid (w.heap.size ≠ b5) := by have h1 := HV4_p.out.lt; have h2 := hle; show _ ≠ _; omega
 have HN_a_e : Hid (b1 ≠ b5) := by have h1 := HV4_a.out.lt; have h2 := hle; show _ ≠ _; omega
 have HN_b_e : Hid (b2 ≠ b5) := by have h1 := HV4_b.out.lt; have h2 := hle; show _ ≠ _; omega
 have HN_c_e : Hid (b3 ≠ b5) := by have h1 := HV4_c.out.lt; have h2 := hle; show _ ≠ _; omega
 have HN_res_e : Hid (w.heap.size + 1 ≠ b5) := by have h1 := HV4_res.out.lt; have h2 := hle; show _ ≠ _; omega
 have HG_e : Hid (w.heap.size ≤ b5) := Nat.le_trans HB_4.out.size hle
 have HV5_p : Hid (PAt w5 (w.heap.size) (p)) := HV4_p.out.below HX.out HV4_p.out.lt
 have HV5_a : Hid (WAt w5 (b1) (((p).x) * ((p).x))) := HV4_a.out.below HX.out HV4_a.out.lt
 have HV5_b : Hid (WAt w5 (b2) (((p).y) * ((p).y))) := HV4_b.out.below HX.out HV4_b.out.lt
 have HV5_c : Hid (WAt w5 (b3) ((((p).z) * ((p).z)) + (((p).z) * ((p).z)))) := HV4_c.out.below HX.out HV4_c.out.lt
 have HV5_res : Hid (PAt w5 (w.heap.size + 1) e0) := HV4_res.out.below HX.out HV4_res.out.lt
 have HB_5 : Hid (Below w.heap.size w w5) := HB_4.out.trans (HX.out.mono HB_4.out.size)
 clear hW hb2 hb hle hw1 HX
 simp only [Act.put, zA, zB, zC]
 refine Qt.done ?_
 refine wp_seq ?_
 refine Qt.wp_letU 3 _ rfl 161 rfl wordZero (by kernel_rfl) rfl ?_
 refine y_word rfl _ rfl (b2) (((p).y) * ((p).y)) rfl HV5_b.out ?_
 refine y_word rfl _ rfl (b1) (((p).x) * ((p).x)) rfl HV5_a.out ?_
 refine Qt.y_call rfl 226 #[.agg (fw (((p).y) * ((p).y))), .agg (fw (((p).x) * ((p).x)))] _ (fun _ => by kernel_rfl) (fun w' _ => sub_f (((p).y) * ((p).y)) (((p).x) * ((p).x)) w') ?_
 simp only [Act.put, zA, zB, zC]
 skip
 refine Qt.y_nil ?_
 intro b6 wa6 hw1 hle hb
 have hw1 : Below (w5).heap.size (w5) wa6 := by first | exact hw1 | exact hw1.mono (by simp)
 have hle : (w5).heap.size ≤ b6 := by first | exact hle | exact Nat.le_trans (by simp) hle
 refine l_store rfl rfl b6 ((((p).y) * ((p).y)) - (((p).x) * ((p).x))) rfl rfl hw1 hle hb ?_
 intro w6 hW hb2
 have HX : Hid (Below (w5).heap.size (w5) w6) := hb2
 have HV6_g : Hid (WAt w6 b6 ((((p).y) * ((p).y)) - (((p).x) * ((p).x)))) := hW
 have HN_p_g : Hid (w.heap.size ≠ b6) := by have h1 := HV5_p.out.lt; have h2 := hle; show _ ≠ _; omega
 have HN_a_g : Hid (b1 ≠ b6) := by have h1 := HV5_a.out.lt; have h2 := hle; show _ ≠ _; omega
 have HN_b_g : Hid (b2 ≠ b6) := by have h1 := HV5_b.out.lt; have h2 := hle; show _ ≠ _; omega
 have HN_c_g : Hid (b3 ≠ b6) := by have h1 := HV5_c.out.lt; have h2 := hle; show _ ≠ _; omega
 have HN_e_g : Hid (b5 ≠ b6) := by have h1 := HV5_e.out.lt; have h2 := hle; show _ ≠ _; omega
 have HN_res_g : Hid (w.heap.size + 1 ≠ b6) := by have h1 := HV5_res.out.lt; have h2 := hle; show _ ≠ _; omega
 have HG_g : Hid (w.heap.size ≤ b6) := Nat.le_trans HB_5.out.size hle
 have HV6_p : Hid (PAt w6 (w.heap.size) (p)) := HV5_p.out.below HX.out HV5_p.out.lt
 have HV6_a : Hid (WAt w6 (b1) (((p).x) * ((p).x))) := HV5_a.out.below HX.out HV5_a.out.lt
 have HV6_b : Hid (WAt w6 (b2) (((p).y) * ((p).y))) := HV5_b.out.below HX.out HV5_b.out.lt
 have HV6_c : Hid (WAt w6 (b3) ((((p).z) * ((p).z)) + (((p).z) * ((p).z)))) := HV5_c.out.below HX.out HV5_c.out.lt
 have HV6_e : Hid (WAt w6 (b5) ((((((p).x) + ((p).y)) * (((p).x) + ((p).y))) - (((p).x) * ((p).x))) - (((p).y) * ((p).y)))) := HV5_e.out.below HX.out HV5_e.out.lt
 have HV6_res : Hid (PAt w6 (w.heap.size + 1) e0) := HV5_res.out.below HX.out HV5_res.out.lt
 have HB_6 : Hid (Below w.heap.size w w6) := HB_5.out.trans (HX.out.mono HB_5.out.size)
 clear hW hb2 hb hle hw1 HX
 simp only [Act.put, zA, zB, zC]
 refine Qt.done ?_
 refine wp_seq ?_
 refine Qt.wp_tail 10 (by kernel_rfl) (by kernel_rfl) ?_
 refine y_word rfl _ rfl (b5) ((((((p).x) + ((p).y)) * (((p).x) + ((p).y))) - (((p).x) * ((p).x))) - (((p).y) * ((p).y))) rfl HV6_e.out ?_
 refine y_word rfl _ rfl (b6) ((((p).y) * ((p).y)) - (((p).x) * ((p).x))) rfl HV6_g.out ?_
 refine y_word rfl _ rfl (b3) ((((p).z) * ((p).z)) + (((p).z) * ((p).z))) rfl HV6_c.out ?_
 refine Qt.y_call rfl 226 #[.agg (fw ((((p).y) * ((p).y)) - (((p).x) * ((p).x)))), .agg (fw ((((p).z) * ((p).z)) + (((p).z) * ((p).z))))] _ (fun _ => by kernel_rfl) (fun w' _ => sub_f ((((p).y) * ((p).y)) - (((p).x) * ((p).x))) ((((p).z) * ((p).z)) + (((p).z) * ((p).z))) w') ?_
 simp only [Act.put, zA, zB, zC]
 refine y_word rfl _ rfl (b6) ((((p).y) * ((p).y)) - (((p).x) * ((p).x))) rfl HV6_g.out ?_
 refine y_word rfl _ rfl (b1) (((p).x) * ((p).x)) rfl HV6_a.out ?_
 refine y_word rfl _ rfl (b2) (((p).y) * ((p).y)) rfl HV6_b.out ?_
 refine Qt.y_call rfl 229 #[.agg (fw (((p).x) * ((p).x))), .agg (fw (((p).y) * ((p).y)))] _ (fun _ => by kernel_rfl) (fun w' _ => add_f (((p).x) * ((p).x)) (((p).y) * ((p).y)) w') ?_
 simp only [Act.put, zA, zB, zC]
 refine Qt.y_call rfl 177 #[.agg (fw ((((p).x) * ((p).x)) + (((p).y) * ((p).y))))] _ (fun _ => by kernel_rfl) (fun w' _ => neg_f ((((p).x) * ((p).x)) + (((p).y) * ((p).y))) w') ?_
 simp only [Act.put, zA, zB, zC]
 refine Qt.y_call rfl 238 #[.agg (fw ((((((p).x) + ((p).y)) * (((p).x) + ((p).y))) - (((p).x) * ((p).x))) - (((p).y) * ((p).y)))), .agg (fw (((((p).y) * ((p).y)) - (((p).x) * ((p).x))) - ((((p).z) * ((p).z)) + (((p).z) * ((p).z))))), .agg (fw ((((p).y) * ((p).y)) - (((p).x) * ((p).x)))), .agg (fw (0 - ((((p).x) * ((p).x)) + (((p).y) * ((p).y)))))] (.agg (pw (Ed.quot ((((((p).x) + ((p).y)) * (((p).x) + ((p).y))) - (((p).x) * ((p).x))) - (((p).y) * ((p).y))) (((((p).y) * ((p).y)) - (((p).x) * ((p).x))) - ((((p).z) * ((p).z)) + (((p).z) * ((p).z)))) ((((p).y) * ((p).y)) - (((p).x) * ((p).x))) (0 - ((((p).x) * ((p).x)) + (((p).y) * ((p).y))))))) (fun _ => by kernel_rfl) (fun w' _ => quot_f ((((((p).x) + ((p).y)) * (((p).x) + ((p).y))) - (((p).x) * ((p).x))) - (((p).y) * ((p).y))) (((((p).y) * ((p).y)) - (((p).x) * ((p).x))) - ((((p).z) * ((p).z)) + (((p).z) * ((p).z)))) ((((p).y) * ((p).y)) - (((p).x) * ((p).x))) (0 - ((((p).x) * ((p).x)) + (((p).y) * ((p).y)))) w') ?_
 simp only [Act.put, zA, zB, zC]
 skip
 refine Qt.y_nil ?_
 intro wz hb2
 have HX : Hid (Below (w6).heap.size (w6) wz) := by first | exact hb2 | exact hb2.mono (by simp)
 have HO : Hid (PAt wz (w.heap.size + 1) e0) := HV6_res.out.below HX.out HV6_res.out.lt
 refine store_p rfl _ _ rfl (w.heap.size + 1) (Ed.edbl p) e0 rfl rfl HO.out ?_
 simp only [Act.put]
 refine Qt.done ?_
 go_wp2_with fail
 exact ret_p Tryz.results175 rfl (w.heap.size + 1) (Ed.edbl p) rfl (HO.out.setRow _) ⟨rfl, below_store HB_6.out HX.out _ (by omega) _⟩
end Cw
end Go.Proofs.YtbojijefenfbgaaGreatDoor
