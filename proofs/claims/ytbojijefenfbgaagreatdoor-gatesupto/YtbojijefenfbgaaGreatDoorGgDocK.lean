/- Walk of the document's Sum. (Laid by wip/gen/docsum.py.) -/
import Derived.Test.YtbojijefenfbgaaGreatDoorGgShort
import Derived.Test.YtbojijefenfbgaaGreatDoorGgDocI
import Derived.Test.YtbojijefenfbgaaGreatDoorGgExt
namespace Go.Proofs.YtbojijefenfbgaaGreatDoor
open Go.RowKit
namespace Dc
open Bt Ed
theorem l_allocT (w : World) {ops : Array Oper} {rest : List Oper} {o : Oper} {a : Act} {Q : Exit → Act → World → Prop} (hg : o.guard = none) (hop : o.op = Op.alloc 100)
  (hK : wpList Tryz.prog ops Q rest (a.put o.dst (.pointer (some ⟨w.heap.size, 0, none⟩))) (w.alloc (.cells tpZ 100))) : wpList Tryz.prog ops Q (o :: rest) a w :=
 Own.wpList_alloc_at w hg 100 hop _ tpZ_info hK
def tsumD (d : F) (p q : T3) : T3 := ⟨p.z * q.z * ((p.z * q.z * (p.z * q.z) - d * (p.x * q.x * (p.y * q.y))) * ((p.x + p.y) * (q.x + q.y) - p.x * q.x - p.y * q.y)), p.z * q.z * ((p.z * q.z * (p.z * q.z) + d * (p.x * q.x * (p.y * q.y))) * (p.y * q.y + p.x * q.x)), (p.z * q.z * (p.z * q.z) - d * (p.x * q.x * (p.y * q.y))) * (p.z * q.z * (p.z * q.z) + d * (p.x * q.x * (p.y * q.y)))⟩
theorem tsumD_eq (p q : T3) : tsumD dD p q = tsum p q := rfl
noncomputable abbrev S4 (w : World) (p q : T3) (d : F) : World := (((w.alloc (.cells (tp p) 100)).alloc (.cells (tp q) 100)).alloc (.cells (rn d) 95)).alloc (.cells tpZ 100)
theorem S4_p (w : World) (p q : T3) (d : F) : TAt (S4 w p q d) w.heap.size p := (al4 rfl).1
theorem S4_q (w : World) (p q : T3) (d : F) : TAt (S4 w p q d) (w.heap.size + 1) q := (al4 rfl).2.1
theorem S4_d (w : World) (p q : T3) (d : F) : RAt (S4 w p q d) (w.heap.size + 1 + 1) d := (al4 rfl).2.2.1
theorem S4_r (w : World) (p q : T3) (d : F) : TAt (S4 w p q d) (w.heap.size + 1 + 1 + 1) t0 := .zero (al4 rfl).2.2.2.1
theorem S4_b (w : World) (p q : T3) (d : F) : Below w.heap.size w (S4 w p q d) := (al4 rfl).2.2.2.2
set_option maxRecDepth 100000 in
set_option maxHeartbeats 1000000 in
theorem sum_d (p q : T3) (d : F) (w : World) : Calls Tryz.prog 47 #[.agg (tp p), .agg (tp q), .agg (rn d)] w fun e w' => e = .returned (.agg (tp (tsumD d p q))) ∧ Below w.heap.size w w' := by
 have HV_p : Hid (TAt (S4 w p q d) (w.heap.size) (p)) := S4_p w p q d
 have HV_q : Hid (TAt (S4 w p q d) (w.heap.size + 1) (q)) := S4_q w p q d
 have HV_d : Hid (RAt (S4 w p q d) (w.heap.size + 1 + 1) (d)) := S4_d w p q d
 have HV_res : Hid (TAt (S4 w p q d) (w.heap.size + 1 + 1 + 1) t0) := S4_r w p q d
 have HB_ : Hid (Below w.heap.size w (S4 w p q d)) := S4_b w p q d
 go_enter Tryz.func47, Tryz.ntmps47
 go_wp2_with (first | refine l_allocT _ rfl rfl ?_ | refine Qt.wp_letL 5 _ rfl 95 rfl (num fun _ => 0) numZ_info rfl ?_)
 rename_i Kq hKq
 refine Qt.y_val rfl (.pointer (some ⟨w.heap.size, 32, none⟩)) (fun _ _ => by kernel_rfl) ?_
 refine y_rf rfl _ rfl (w.heap.size) 32 ((p).z) rfl HV_p.out.lt HV_p.out.z ?_
 simp only [Act.put, zA, zB, zC]
 refine Qt.y_val rfl (.pointer (some ⟨w.heap.size + 1, 32, none⟩)) (fun _ _ => by kernel_rfl) ?_
 refine y_rf rfl _ rfl (w.heap.size + 1) 32 ((q).z) rfl HV_q.out.lt HV_q.out.z ?_
 simp only [Act.put, zA, zB, zC]
 refine Qt.y_call rfl 93 #[.agg (rn ((p).z)), .agg (rn ((q).z))] _ (fun _ => by kernel_rfl) (fun w' _ => mul_d ((p).z) ((q).z) w') ?_
 simp only [Act.put, zA, zB, zC]
 skip
 refine Qt.y_nil ?_
 intro b1 wa1 hw1 hle hb
 have hw1 : Below (S4 w p q d).heap.size (S4 w p q d) wa1 := by first | exact hw1 | exact hw1.mono (by simp)
 have hle : (S4 w p q d).heap.size ≤ b1 := by first | exact hle | exact Nat.le_trans (by simp) hle
 refine l_let rfl rfl b1 (((p).z) * ((q).z)) rfl rfl hw1 hle hb ?_
 intro w1 hW hb2
 have HX : Hid (Below (S4 w p q d).heap.size (S4 w p q d) w1) := hb2
 have HV1_a : Hid (RAt w1 b1 (((p).z) * ((q).z))) := hW
 have HN_p_a : Hid (w.heap.size ≠ b1) := by have h1 := HV_p.out.lt; have h2 := hle; show _ ≠ _; omega
 have HN_q_a : Hid (w.heap.size + 1 ≠ b1) := by have h1 := HV_q.out.lt; have h2 := hle; show _ ≠ _; omega
 have HN_d_a : Hid (w.heap.size + 1 + 1 ≠ b1) := by have h1 := HV_d.out.lt; have h2 := hle; show _ ≠ _; omega
 have HN_res_a : Hid (w.heap.size + 1 + 1 + 1 ≠ b1) := by have h1 := HV_res.out.lt; have h2 := hle; show _ ≠ _; omega
 have HG_a : Hid (w.heap.size ≤ b1) := Nat.le_trans HB_.out.size hle
 have HV1_p : Hid (TAt w1 (w.heap.size) (p)) := HV_p.out.below HX.out HV_p.out.lt
 have HV1_q : Hid (TAt w1 (w.heap.size + 1) (q)) := HV_q.out.below HX.out HV_q.out.lt
 have HV1_d : Hid (RAt w1 (w.heap.size + 1 + 1) (d)) := HV_d.out.below HX.out HV_d.out.lt
 have HV1_res : Hid (TAt w1 (w.heap.size + 1 + 1 + 1) t0) := HV_res.out.below HX.out HV_res.out.lt
 have HB_1 : Hid (Below w.heap.size w w1) := HB_.out.trans (HX.out.mono HB_.out.size)
 clear hW hb2 hb hle hw1 HX
 simp only [Act.put, zA, zB, zC]
 refine Qt.done ?_
 refine hKq _ _ ?_
 refine wp_seq ?_
 refine Qt.wp_letU 3 _ rfl 95 rfl (num fun _ => 0) numZ_info rfl ?_
 refine y_r rfl _ rfl (b1) (((p).z) * ((q).z)) rfl HV1_a.out ?_
 refine y_r rfl _ rfl (b1) (((p).z) * ((q).z)) rfl HV1_a.out ?_
 refine Qt.y_call rfl 93 #[.agg (rn (((p).z) * ((q).z))), .agg (rn (((p).z) * ((q).z)))] _ (fun _ => by kernel_rfl) (fun w' _ => mul_d (((p).z) * ((q).z)) (((p).z) * ((q).z)) w') ?_
 simp only [Act.put, zA, zB, zC]
 skip
 refine Qt.y_nil ?_
 intro b2 wa2 hw1 hle hb
 have hw1 : Below (w1).heap.size (w1) wa2 := by first | exact hw1 | exact hw1.mono (by simp)
 have hle : (w1).heap.size ≤ b2 := by first | exact hle | exact Nat.le_trans (by simp) hle
 refine l_let rfl rfl b2 ((((p).z) * ((q).z)) * (((p).z) * ((q).z))) rfl rfl hw1 hle hb ?_
 intro w2 hW hb2
 have HX : Hid (Below (w1).heap.size (w1) w2) := hb2
 have HV2_b : Hid (RAt w2 b2 ((((p).z) * ((q).z)) * (((p).z) * ((q).z)))) := hW
 have HN_p_b : Hid (w.heap.size ≠ b2) := by have h1 := HV1_p.out.lt; have h2 := hle; show _ ≠ _; omega
 have HN_q_b : Hid (w.heap.size + 1 ≠ b2) := by have h1 := HV1_q.out.lt; have h2 := hle; show _ ≠ _; omega
 have HN_d_b : Hid (w.heap.size + 1 + 1 ≠ b2) := by have h1 := HV1_d.out.lt; have h2 := hle; show _ ≠ _; omega
 have HN_a_b : Hid (b1 ≠ b2) := by have h1 := HV1_a.out.lt; have h2 := hle; show _ ≠ _; omega
 have HN_res_b : Hid (w.heap.size + 1 + 1 + 1 ≠ b2) := by have h1 := HV1_res.out.lt; have h2 := hle; show _ ≠ _; omega
 have HG_b : Hid (w.heap.size ≤ b2) := Nat.le_trans HB_1.out.size hle
 have HV2_p : Hid (TAt w2 (w.heap.size) (p)) := HV1_p.out.below HX.out HV1_p.out.lt
 have HV2_q : Hid (TAt w2 (w.heap.size + 1) (q)) := HV1_q.out.below HX.out HV1_q.out.lt
 have HV2_d : Hid (RAt w2 (w.heap.size + 1 + 1) (d)) := HV1_d.out.below HX.out HV1_d.out.lt
 have HV2_a : Hid (RAt w2 (b1) (((p).z) * ((q).z))) := HV1_a.out.below HX.out HV1_a.out.lt
 have HV2_res : Hid (TAt w2 (w.heap.size + 1 + 1 + 1) t0) := HV1_res.out.below HX.out HV1_res.out.lt
 have HB_2 : Hid (Below w.heap.size w w2) := HB_1.out.trans (HX.out.mono HB_1.out.size)
 clear hW hb2 hb hle hw1 HX
 simp only [Act.put, zA, zB, zC]
 refine Qt.done ?_
 refine wp_seq ?_
 refine Qt.wp_letU 5 _ rfl 95 rfl (num fun _ => 0) numZ_info rfl ?_
 refine Qt.y_val rfl (.pointer (some ⟨w.heap.size, 0, none⟩)) (fun _ _ => by kernel_rfl) ?_
 refine y_rf rfl _ rfl (w.heap.size) 0 ((p).x) rfl HV2_p.out.lt HV2_p.out.x ?_
 simp only [Act.put, zA, zB, zC]
 refine Qt.y_val rfl (.pointer (some ⟨w.heap.size + 1, 0, none⟩)) (fun _ _ => by kernel_rfl) ?_
 refine y_rf rfl _ rfl (w.heap.size + 1) 0 ((q).x) rfl HV2_q.out.lt HV2_q.out.x ?_
 simp only [Act.put, zA, zB, zC]
 refine Qt.y_call rfl 93 #[.agg (rn ((p).x)), .agg (rn ((q).x))] _ (fun _ => by kernel_rfl) (fun w' _ => mul_d ((p).x) ((q).x) w') ?_
 simp only [Act.put, zA, zB, zC]
 skip
 refine Qt.y_nil ?_
 intro b3 wa3 hw1 hle hb
 have hw1 : Below (w2).heap.size (w2) wa3 := by first | exact hw1 | exact hw1.mono (by simp)
 have hle : (w2).heap.size ≤ b3 := by first | exact hle | exact Nat.le_trans (by simp) hle
 refine l_let rfl rfl b3 (((p).x) * ((q).x)) rfl rfl hw1 hle hb ?_
 intro w3 hW hb2
 have HX : Hid (Below (w2).heap.size (w2) w3) := hb2
 have HV3_c : Hid (RAt w3 b3 (((p).x) * ((q).x))) := hW
 have HN_p_c : Hid (w.heap.size ≠ b3) := by have h1 := HV2_p.out.lt; have h2 := hle; show _ ≠ _; omega
 have HN_q_c : Hid (w.heap.size + 1 ≠ b3) := by have h1 := HV2_q.out.lt; have h2 := hle; show _ ≠ _; omega
 have HN_d_c : Hid (w.heap.size + 1 + 1 ≠ b3) := by have h1 := HV2_d.out.lt; have h2 := hle; show _ ≠ _; omega
 have HN_a_c : Hid (b1 ≠ b3) := by have h1 := HV2_a.out.lt; have h2 := hle; show _ ≠ _; omega
 have HN_b_c : Hid (b2 ≠ b3) := by have h1 := HV2_b.out.lt; have h2 := hle; show _ ≠ _; omega
 have HN_res_c : Hid (w.heap.size + 1 + 1 + 1 ≠ b3) := by have h1 := HV2_res.out.lt; have h2 := hle; show _ ≠ _; omega
 have HG_c : Hid (w.heap.size ≤ b3) := Nat.le_trans HB_2.out.size hle
 have HV3_p : Hid (TAt w3 (w.heap.size) (p)) := HV2_p.out.below HX.out HV2_p.out.lt
 have HV3_q : Hid (TAt w3 (w.heap.size + 1) (q)) := HV2_q.out.below HX.out HV2_q.out.lt
 have HV3_d : Hid (RAt w3 (w.heap.size + 1 + 1) (d)) := HV2_d.out.below HX.out HV2_d.out.lt
 have HV3_a : Hid (RAt w3 (b1) (((p).z) * ((q).z))) := HV2_a.out.below HX.out HV2_a.out.lt
 have HV3_b : Hid (RAt w3 (b2) ((((p).z) * ((q).z)) * (((p).z) * ((q).z)))) := HV2_b.out.below HX.out HV2_b.out.lt
 have HV3_res : Hid (TAt w3 (w.heap.size + 1 + 1 + 1) t0) := HV2_res.out.below HX.out HV2_res.out.lt
 have HB_3 : Hid (Below w.heap.size w w3) := HB_2.out.trans (HX.out.mono HB_2.out.size)
 clear hW hb2 hb hle hw1 HX
 simp only [Act.put, zA, zB, zC]
 refine Qt.done ?_
 refine wp_seq ?_
 refine Qt.wp_letU 5 _ rfl 95 rfl (num fun _ => 0) numZ_info rfl ?_
 refine Qt.y_val rfl (.pointer (some ⟨w.heap.size, 16, none⟩)) (fun _ _ => by kernel_rfl) ?_
 refine y_rf rfl _ rfl (w.heap.size) 16 ((p).y) rfl HV3_p.out.lt HV3_p.out.y ?_
 simp only [Act.put, zA, zB, zC]
 refine Qt.y_val rfl (.pointer (some ⟨w.heap.size + 1, 16, none⟩)) (fun _ _ => by kernel_rfl) ?_
 refine y_rf rfl _ rfl (w.heap.size + 1) 16 ((q).y) rfl HV3_q.out.lt HV3_q.out.y ?_
 simp only [Act.put, zA, zB, zC]
 refine Qt.y_call rfl 93 #[.agg (rn ((p).y)), .agg (rn ((q).y))] _ (fun _ => by kernel_rfl) (fun w' _ => mul_d ((p).y) ((q).y) w') ?_
 simp only [Act.put, zA, zB, zC]
 skip
 refine Qt.y_nil ?_
 intro b4 wa4 hw1 hle hb
 have hw1 : Below (w3).heap.size (w3) wa4 := by first | exact hw1 | exact hw1.mono (by simp)
 have hle : (w3).heap.size ≤ b4 := by first | exact hle | exact Nat.le_trans (by simp) hle
 refine l_let rfl rfl b4 (((p).y) * ((q).y)) rfl rfl hw1 hle hb ?_
 intro w4 hW hb2
 have HX : Hid (Below (w3).heap.size (w3) w4) := hb2
 have HV4_e : Hid (RAt w4 b4 (((p).y) * ((q).y))) := hW
 have HN_p_e : Hid (w.heap.size ≠ b4) := by have h1 := HV3_p.out.lt; have h2 := hle; show _ ≠ _; omega
 have HN_q_e : Hid (w.heap.size + 1 ≠ b4) := by have h1 := HV3_q.out.lt; have h2 := hle; show _ ≠ _; omega
 have HN_d_e : Hid (w.heap.size + 1 + 1 ≠ b4) := by have h1 := HV3_d.out.lt; have h2 := hle; show _ ≠ _; omega
 have HN_a_e : Hid (b1 ≠ b4) := by have h1 := HV3_a.out.lt; have h2 := hle; show _ ≠ _; omega
 have HN_b_e : Hid (b2 ≠ b4) := by have h1 := HV3_b.out.lt; have h2 := hle; show _ ≠ _; omega
 have HN_c_e : Hid (b3 ≠ b4) := by have h1 := HV3_c.out.lt; have h2 := hle; show _ ≠ _; omega
 have HN_res_e : Hid (w.heap.size + 1 + 1 + 1 ≠ b4) := by have h1 := HV3_res.out.lt; have h2 := hle; show _ ≠ _; omega
 have HG_e : Hid (w.heap.size ≤ b4) := Nat.le_trans HB_3.out.size hle
 have HV4_p : Hid (TAt w4 (w.heap.size) (p)) := HV3_p.out.below HX.out HV3_p.out.lt
 have HV4_q : Hid (TAt w4 (w.heap.size + 1) (q)) := HV3_q.out.below HX.out HV3_q.out.lt
 have HV4_d : Hid (RAt w4 (w.heap.size + 1 + 1) (d)) := HV3_d.out.below HX.out HV3_d.out.lt
 have HV4_a : Hid (RAt w4 (b1) (((p).z) * ((q).z))) := HV3_a.out.below HX.out HV3_a.out.lt
 have HV4_b : Hid (RAt w4 (b2) ((((p).z) * ((q).z)) * (((p).z) * ((q).z)))) := HV3_b.out.below HX.out HV3_b.out.lt
 have HV4_c : Hid (RAt w4 (b3) (((p).x) * ((q).x))) := HV3_c.out.below HX.out HV3_c.out.lt
 have HV4_res : Hid (TAt w4 (w.heap.size + 1 + 1 + 1) t0) := HV3_res.out.below HX.out HV3_res.out.lt
 have HB_4 : Hid (Below w.heap.size w w4) := HB_3.out.trans (HX.out.mono HB_3.out.size)
 clear hW hb2 hb hle hw1 HX
 simp only [Act.put, zA, zB, zC]
 refine Qt.done ?_
 refine wp_seq ?_
 refine Qt.wp_let 5 (by kernel_rfl) (by kernel_rfl) _ rfl 95 rfl (num fun _ => 0) numZ_info ?_
 refine y_r rfl _ rfl (w.heap.size + 1 + 1) (d) rfl HV4_d.out ?_
 refine y_r rfl _ rfl (b3) (((p).x) * ((q).x)) rfl HV4_c.out ?_
 refine y_r rfl _ rfl (b4) (((p).y) * ((q).y)) rfl HV4_e.out ?_
 refine Qt.y_call rfl 93 #[.agg (rn (((p).x) * ((q).x))), .agg (rn (((p).y) * ((q).y)))] _ (fun _ => by kernel_rfl) (fun w' _ => mul_d (((p).x) * ((q).x)) (((p).y) * ((q).y)) w') ?_
 simp only [Act.put, zA, zB, zC]
 refine Qt.y_call rfl 93 #[.agg (rn (d)), .agg (rn ((((p).x) * ((q).x)) * (((p).y) * ((q).y))))] _ (fun _ => by kernel_rfl) (fun w' _ => mul_d (d) ((((p).x) * ((q).x)) * (((p).y) * ((q).y))) w') ?_
 simp only [Act.put, zA, zB, zC]
 skip
 refine Qt.y_nil ?_
 intro b5 wa5 hw1 hle hb
 have hw1 : Below (w4).heap.size (w4) wa5 := by first | exact hw1 | exact hw1.mono (by simp)
 have hle : (w4).heap.size ≤ b5 := by first | exact hle | exact Nat.le_trans (by simp) hle
 refine l_let rfl rfl b5 ((d) * ((((p).x) * ((q).x)) * (((p).y) * ((q).y)))) rfl rfl hw1 hle hb ?_
 intro w5 hW hb2
 have HX : Hid (Below (w4).heap.size (w4) w5) := hb2
 have HV5_k : Hid (RAt w5 b5 ((d) * ((((p).x) * ((q).x)) * (((p).y) * ((q).y))))) := hW
 have HN_p_k : Hid (w.heap.size ≠ b5) := by have h1 := HV4_p.out.lt; have h2 := hle; show _ ≠ _; omega
 have HN_q_k : Hid (w.heap.size + 1 ≠ b5) := by have h1 := HV4_q.out.lt; have h2 := hle; show _ ≠ _; omega
 have HN_d_k : Hid (w.heap.size + 1 + 1 ≠ b5) := by have h1 := HV4_d.out.lt; have h2 := hle; show _ ≠ _; omega
 have HN_a_k : Hid (b1 ≠ b5) := by have h1 := HV4_a.out.lt; have h2 := hle; show _ ≠ _; omega
 have HN_b_k : Hid (b2 ≠ b5) := by have h1 := HV4_b.out.lt; have h2 := hle; show _ ≠ _; omega
 have HN_c_k : Hid (b3 ≠ b5) := by have h1 := HV4_c.out.lt; have h2 := hle; show _ ≠ _; omega
 have HN_e_k : Hid (b4 ≠ b5) := by have h1 := HV4_e.out.lt; have h2 := hle; show _ ≠ _; omega
 have HN_res_k : Hid (w.heap.size + 1 + 1 + 1 ≠ b5) := by have h1 := HV4_res.out.lt; have h2 := hle; show _ ≠ _; omega
 have HG_k : Hid (w.heap.size ≤ b5) := Nat.le_trans HB_4.out.size hle
 have HV5_p : Hid (TAt w5 (w.heap.size) (p)) := HV4_p.out.below HX.out HV4_p.out.lt
 have HV5_q : Hid (TAt w5 (w.heap.size + 1) (q)) := HV4_q.out.below HX.out HV4_q.out.lt
 have HV5_d : Hid (RAt w5 (w.heap.size + 1 + 1) (d)) := HV4_d.out.below HX.out HV4_d.out.lt
 have HV5_a : Hid (RAt w5 (b1) (((p).z) * ((q).z))) := HV4_a.out.below HX.out HV4_a.out.lt
 have HV5_b : Hid (RAt w5 (b2) ((((p).z) * ((q).z)) * (((p).z) * ((q).z)))) := HV4_b.out.below HX.out HV4_b.out.lt
 have HV5_c : Hid (RAt w5 (b3) (((p).x) * ((q).x))) := HV4_c.out.below HX.out HV4_c.out.lt
 have HV5_e : Hid (RAt w5 (b4) (((p).y) * ((q).y))) := HV4_e.out.below HX.out HV4_e.out.lt
 have HV5_res : Hid (TAt w5 (w.heap.size + 1 + 1 + 1) t0) := HV4_res.out.below HX.out HV4_res.out.lt
 have HB_5 : Hid (Below w.heap.size w w5) := HB_4.out.trans (HX.out.mono HB_4.out.size)
 clear hW hb2 hb hle hw1 HX
 simp only [Act.put, zA, zB, zC]
 refine Qt.done ?_
 refine wp_seq ?_
 refine Qt.wp_letU 3 _ rfl 95 rfl (num fun _ => 0) numZ_info rfl ?_
 refine y_r rfl _ rfl (b2) ((((p).z) * ((q).z)) * (((p).z) * ((q).z))) rfl HV5_b.out ?_
 refine y_r rfl _ rfl (b5) ((d) * ((((p).x) * ((q).x)) * (((p).y) * ((q).y)))) rfl HV5_k.out ?_
 refine Qt.y_call rfl 42 #[.agg (rn ((((p).z) * ((q).z)) * (((p).z) * ((q).z)))), .agg (rn ((d) * ((((p).x) * ((q).x)) * (((p).y) * ((q).y)))))] _ (fun _ => by kernel_rfl) (fun w' _ => sub_d ((((p).z) * ((q).z)) * (((p).z) * ((q).z))) ((d) * ((((p).x) * ((q).x)) * (((p).y) * ((q).y)))) w') ?_
 simp only [Act.put, zA, zB, zC]
 skip
 refine Qt.y_nil ?_
 intro b6 wa6 hw1 hle hb
 have hw1 : Below (w5).heap.size (w5) wa6 := by first | exact hw1 | exact hw1.mono (by simp)
 have hle : (w5).heap.size ≤ b6 := by first | exact hle | exact Nat.le_trans (by simp) hle
 refine l_let rfl rfl b6 (((((p).z) * ((q).z)) * (((p).z) * ((q).z))) - ((d) * ((((p).x) * ((q).x)) * (((p).y) * ((q).y))))) rfl rfl hw1 hle hb ?_
 intro w6 hW hb2
 have HX : Hid (Below (w5).heap.size (w5) w6) := hb2
 have HV6_f : Hid (RAt w6 b6 (((((p).z) * ((q).z)) * (((p).z) * ((q).z))) - ((d) * ((((p).x) * ((q).x)) * (((p).y) * ((q).y)))))) := hW
 have HN_p_f : Hid (w.heap.size ≠ b6) := by have h1 := HV5_p.out.lt; have h2 := hle; show _ ≠ _; omega
 have HN_q_f : Hid (w.heap.size + 1 ≠ b6) := by have h1 := HV5_q.out.lt; have h2 := hle; show _ ≠ _; omega
 have HN_d_f : Hid (w.heap.size + 1 + 1 ≠ b6) := by have h1 := HV5_d.out.lt; have h2 := hle; show _ ≠ _; omega
 have HN_a_f : Hid (b1 ≠ b6) := by have h1 := HV5_a.out.lt; have h2 := hle; show _ ≠ _; omega
 have HN_b_f : Hid (b2 ≠ b6) := by have h1 := HV5_b.out.lt; have h2 := hle; show _ ≠ _; omega
 have HN_c_f : Hid (b3 ≠ b6) := by have h1 := HV5_c.out.lt; have h2 := hle; show _ ≠ _; omega
 have HN_e_f : Hid (b4 ≠ b6) := by have h1 := HV5_e.out.lt; have h2 := hle; show _ ≠ _; omega
 have HN_k_f : Hid (b5 ≠ b6) := by have h1 := HV5_k.out.lt; have h2 := hle; show _ ≠ _; omega
 have HN_res_f : Hid (w.heap.size + 1 + 1 + 1 ≠ b6) := by have h1 := HV5_res.out.lt; have h2 := hle; show _ ≠ _; omega
 have HG_f : Hid (w.heap.size ≤ b6) := Nat.le_trans HB_5.out.size hle
 have HV6_p : Hid (TAt w6 (w.heap.size) (p)) := HV5_p.out.below HX.out HV5_p.out.lt
 have HV6_q : Hid (TAt w6 (w.heap.size + 1) (q)) := HV5_q.out.below HX.out HV5_q.out.lt
 have HV6_d : Hid (RAt w6 (w.heap.size + 1 + 1) (d)) := HV5_d.out.below HX.out HV5_d.out.lt
 have HV6_a : Hid (RAt w6 (b1) (((p).z) * ((q).z))) := HV5_a.out.below HX.out HV5_a.out.lt
 have HV6_b : Hid (RAt w6 (b2) ((((p).z) * ((q).z)) * (((p).z) * ((q).z)))) := HV5_b.out.below HX.out HV5_b.out.lt
 have HV6_c : Hid (RAt w6 (b3) (((p).x) * ((q).x))) := HV5_c.out.below HX.out HV5_c.out.lt
 have HV6_e : Hid (RAt w6 (b4) (((p).y) * ((q).y))) := HV5_e.out.below HX.out HV5_e.out.lt
 have HV6_k : Hid (RAt w6 (b5) ((d) * ((((p).x) * ((q).x)) * (((p).y) * ((q).y))))) := HV5_k.out.below HX.out HV5_k.out.lt
 have HV6_res : Hid (TAt w6 (w.heap.size + 1 + 1 + 1) t0) := HV5_res.out.below HX.out HV5_res.out.lt
 have HB_6 : Hid (Below w.heap.size w w6) := HB_5.out.trans (HX.out.mono HB_5.out.size)
 clear hW hb2 hb hle hw1 HX
 simp only [Act.put, zA, zB, zC]
 refine Qt.done ?_
 refine wp_seq ?_
 refine Qt.wp_letU 3 _ rfl 95 rfl (num fun _ => 0) numZ_info rfl ?_
 refine y_r rfl _ rfl (b2) ((((p).z) * ((q).z)) * (((p).z) * ((q).z))) rfl HV6_b.out ?_
 refine y_r rfl _ rfl (b5) ((d) * ((((p).x) * ((q).x)) * (((p).y) * ((q).y)))) rfl HV6_k.out ?_
 refine Qt.y_call rfl 94 #[.agg (rn ((((p).z) * ((q).z)) * (((p).z) * ((q).z)))), .agg (rn ((d) * ((((p).x) * ((q).x)) * (((p).y) * ((q).y)))))] _ (fun _ => by kernel_rfl) (fun w' _ => add_d ((((p).z) * ((q).z)) * (((p).z) * ((q).z))) ((d) * ((((p).x) * ((q).x)) * (((p).y) * ((q).y)))) w') ?_
 simp only [Act.put, zA, zB, zC]
 skip
 refine Qt.y_nil ?_
 intro b7 wa7 hw1 hle hb
 have hw1 : Below (w6).heap.size (w6) wa7 := by first | exact hw1 | exact hw1.mono (by simp)
 have hle : (w6).heap.size ≤ b7 := by first | exact hle | exact Nat.le_trans (by simp) hle
 refine l_let rfl rfl b7 (((((p).z) * ((q).z)) * (((p).z) * ((q).z))) + ((d) * ((((p).x) * ((q).x)) * (((p).y) * ((q).y))))) rfl rfl hw1 hle hb ?_
 intro w7 hW hb2
 have HX : Hid (Below (w6).heap.size (w6) w7) := hb2
 have HV7_g : Hid (RAt w7 b7 (((((p).z) * ((q).z)) * (((p).z) * ((q).z))) + ((d) * ((((p).x) * ((q).x)) * (((p).y) * ((q).y)))))) := hW
 have HN_p_g : Hid (w.heap.size ≠ b7) := by have h1 := HV6_p.out.lt; have h2 := hle; show _ ≠ _; omega
 have HN_q_g : Hid (w.heap.size + 1 ≠ b7) := by have h1 := HV6_q.out.lt; have h2 := hle; show _ ≠ _; omega
 have HN_d_g : Hid (w.heap.size + 1 + 1 ≠ b7) := by have h1 := HV6_d.out.lt; have h2 := hle; show _ ≠ _; omega
 have HN_a_g : Hid (b1 ≠ b7) := by have h1 := HV6_a.out.lt; have h2 := hle; show _ ≠ _; omega
 have HN_b_g : Hid (b2 ≠ b7) := by have h1 := HV6_b.out.lt; have h2 := hle; show _ ≠ _; omega
 have HN_c_g : Hid (b3 ≠ b7) := by have h1 := HV6_c.out.lt; have h2 := hle; show _ ≠ _; omega
 have HN_e_g : Hid (b4 ≠ b7) := by have h1 := HV6_e.out.lt; have h2 := hle; show _ ≠ _; omega
 have HN_k_g : Hid (b5 ≠ b7) := by have h1 := HV6_k.out.lt; have h2 := hle; show _ ≠ _; omega
 have HN_f_g : Hid (b6 ≠ b7) := by have h1 := HV6_f.out.lt; have h2 := hle; show _ ≠ _; omega
 have HN_res_g : Hid (w.heap.size + 1 + 1 + 1 ≠ b7) := by have h1 := HV6_res.out.lt; have h2 := hle; show _ ≠ _; omega
 have HG_g : Hid (w.heap.size ≤ b7) := Nat.le_trans HB_6.out.size hle
 have HV7_p : Hid (TAt w7 (w.heap.size) (p)) := HV6_p.out.below HX.out HV6_p.out.lt
 have HV7_q : Hid (TAt w7 (w.heap.size + 1) (q)) := HV6_q.out.below HX.out HV6_q.out.lt
 have HV7_d : Hid (RAt w7 (w.heap.size + 1 + 1) (d)) := HV6_d.out.below HX.out HV6_d.out.lt
 have HV7_a : Hid (RAt w7 (b1) (((p).z) * ((q).z))) := HV6_a.out.below HX.out HV6_a.out.lt
 have HV7_b : Hid (RAt w7 (b2) ((((p).z) * ((q).z)) * (((p).z) * ((q).z)))) := HV6_b.out.below HX.out HV6_b.out.lt
 have HV7_c : Hid (RAt w7 (b3) (((p).x) * ((q).x))) := HV6_c.out.below HX.out HV6_c.out.lt
 have HV7_e : Hid (RAt w7 (b4) (((p).y) * ((q).y))) := HV6_e.out.below HX.out HV6_e.out.lt
 have HV7_k : Hid (RAt w7 (b5) ((d) * ((((p).x) * ((q).x)) * (((p).y) * ((q).y))))) := HV6_k.out.below HX.out HV6_k.out.lt
 have HV7_f : Hid (RAt w7 (b6) (((((p).z) * ((q).z)) * (((p).z) * ((q).z))) - ((d) * ((((p).x) * ((q).x)) * (((p).y) * ((q).y)))))) := HV6_f.out.below HX.out HV6_f.out.lt
 have HV7_res : Hid (TAt w7 (w.heap.size + 1 + 1 + 1) t0) := HV6_res.out.below HX.out HV6_res.out.lt
 have HB_7 : Hid (Below w.heap.size w w7) := HB_6.out.trans (HX.out.mono HB_6.out.size)
 clear hW hb2 hb hle hw1 HX
 simp only [Act.put, zA, zB, zC]
 refine Qt.done ?_
 refine wp_seq ?_
 refine Qt.wp_let 11 (by kernel_rfl) (by kernel_rfl) _ rfl 95 rfl (num fun _ => 0) numZ_info ?_
 refine Qt.y_val rfl (.pointer (some ⟨w.heap.size, 0, none⟩)) (fun _ _ => by kernel_rfl) ?_
 refine y_rf rfl _ rfl (w.heap.size) 0 ((p).x) rfl HV7_p.out.lt HV7_p.out.x ?_
 simp only [Act.put, zA, zB, zC]
 refine Qt.y_val rfl (.pointer (some ⟨w.heap.size, 16, none⟩)) (fun _ _ => by kernel_rfl) ?_
 refine y_rf rfl _ rfl (w.heap.size) 16 ((p).y) rfl HV7_p.out.lt HV7_p.out.y ?_
 simp only [Act.put, zA, zB, zC]
 refine Qt.y_call rfl 94 #[.agg (rn ((p).x)), .agg (rn ((p).y))] _ (fun _ => by kernel_rfl) (fun w' _ => add_d ((p).x) ((p).y) w') ?_
 simp only [Act.put, zA, zB, zC]
 refine Qt.y_val rfl (.pointer (some ⟨w.heap.size + 1, 0, none⟩)) (fun _ _ => by kernel_rfl) ?_
 refine y_rf rfl _ rfl (w.heap.size + 1) 0 ((q).x) rfl HV7_q.out.lt HV7_q.out.x ?_
 simp only [Act.put, zA, zB, zC]
 refine Qt.y_val rfl (.pointer (some ⟨w.heap.size + 1, 16, none⟩)) (fun _ _ => by kernel_rfl) ?_
 refine y_rf rfl _ rfl (w.heap.size + 1) 16 ((q).y) rfl HV7_q.out.lt HV7_q.out.y ?_
 simp only [Act.put, zA, zB, zC]
 refine Qt.y_call rfl 94 #[.agg (rn ((q).x)), .agg (rn ((q).y))] _ (fun _ => by kernel_rfl) (fun w' _ => add_d ((q).x) ((q).y) w') ?_
 simp only [Act.put, zA, zB, zC]
 refine Qt.y_call rfl 93 #[.agg (rn (((p).x) + ((p).y))), .agg (rn (((q).x) + ((q).y)))] _ (fun _ => by kernel_rfl) (fun w' _ => mul_d (((p).x) + ((p).y)) (((q).x) + ((q).y)) w') ?_
 simp only [Act.put, zA, zB, zC]
 skip
 refine Qt.y_nil ?_
 intro b8 wa8 hw1 hle hb
 have hw1 : Below (w7).heap.size (w7) wa8 := by first | exact hw1 | exact hw1.mono (by simp)
 have hle : (w7).heap.size ≤ b8 := by first | exact hle | exact Nat.le_trans (by simp) hle
 refine l_let rfl rfl b8 ((((p).x) + ((p).y)) * (((q).x) + ((q).y))) rfl rfl hw1 hle hb ?_
 intro w8 hW hb2
 have HX : Hid (Below (w7).heap.size (w7) w8) := hb2
 have HV8_m : Hid (RAt w8 b8 ((((p).x) + ((p).y)) * (((q).x) + ((q).y)))) := hW
 have HN_p_m : Hid (w.heap.size ≠ b8) := by have h1 := HV7_p.out.lt; have h2 := hle; show _ ≠ _; omega
 have HN_q_m : Hid (w.heap.size + 1 ≠ b8) := by have h1 := HV7_q.out.lt; have h2 := hle; show _ ≠ _; omega
 have HN_d_m : Hid (w.heap.size + 1 + 1 ≠ b8) := by have h1 := HV7_d.out.lt; have h2 := hle; show _ ≠ _; omega
 have HN_a_m : Hid (b1 ≠ b8) := by have h1 := HV7_a.out.lt; have h2 := hle; show _ ≠ _; omega
 have HN_b_m : Hid (b2 ≠ b8) := by have h1 := HV7_b.out.lt; have h2 := hle; show _ ≠ _; omega
 have HN_c_m : Hid (b3 ≠ b8) := by have h1 := HV7_c.out.lt; have h2 := hle; show _ ≠ _; omega
 have HN_e_m : Hid (b4 ≠ b8) := by have h1 := HV7_e.out.lt; have h2 := hle; show _ ≠ _; omega
 have HN_k_m : Hid (b5 ≠ b8) := by have h1 := HV7_k.out.lt; have h2 := hle; show _ ≠ _; omega
 have HN_f_m : Hid (b6 ≠ b8) := by have h1 := HV7_f.out.lt; have h2 := hle; show _ ≠ _; omega
 have HN_g_m : Hid (b7 ≠ b8) := by have h1 := HV7_g.out.lt; have h2 := hle; show _ ≠ _; omega
 have HN_res_m : Hid (w.heap.size + 1 + 1 + 1 ≠ b8) := by have h1 := HV7_res.out.lt; have h2 := hle; show _ ≠ _; omega
 have HG_m : Hid (w.heap.size ≤ b8) := Nat.le_trans HB_7.out.size hle
 have HV8_p : Hid (TAt w8 (w.heap.size) (p)) := HV7_p.out.below HX.out HV7_p.out.lt
 have HV8_q : Hid (TAt w8 (w.heap.size + 1) (q)) := HV7_q.out.below HX.out HV7_q.out.lt
 have HV8_d : Hid (RAt w8 (w.heap.size + 1 + 1) (d)) := HV7_d.out.below HX.out HV7_d.out.lt
 have HV8_a : Hid (RAt w8 (b1) (((p).z) * ((q).z))) := HV7_a.out.below HX.out HV7_a.out.lt
 have HV8_b : Hid (RAt w8 (b2) ((((p).z) * ((q).z)) * (((p).z) * ((q).z)))) := HV7_b.out.below HX.out HV7_b.out.lt
 have HV8_c : Hid (RAt w8 (b3) (((p).x) * ((q).x))) := HV7_c.out.below HX.out HV7_c.out.lt
 have HV8_e : Hid (RAt w8 (b4) (((p).y) * ((q).y))) := HV7_e.out.below HX.out HV7_e.out.lt
 have HV8_k : Hid (RAt w8 (b5) ((d) * ((((p).x) * ((q).x)) * (((p).y) * ((q).y))))) := HV7_k.out.below HX.out HV7_k.out.lt
 have HV8_f : Hid (RAt w8 (b6) (((((p).z) * ((q).z)) * (((p).z) * ((q).z))) - ((d) * ((((p).x) * ((q).x)) * (((p).y) * ((q).y)))))) := HV7_f.out.below HX.out HV7_f.out.lt
 have HV8_g : Hid (RAt w8 (b7) (((((p).z) * ((q).z)) * (((p).z) * ((q).z))) + ((d) * ((((p).x) * ((q).x)) * (((p).y) * ((q).y)))))) := HV7_g.out.below HX.out HV7_g.out.lt
 have HV8_res : Hid (TAt w8 (w.heap.size + 1 + 1 + 1) t0) := HV7_res.out.below HX.out HV7_res.out.lt
 have HB_8 : Hid (Below w.heap.size w w8) := HB_7.out.trans (HX.out.mono HB_7.out.size)
 clear hW hb2 hb hle hw1 HX
 simp only [Act.put, zA, zB, zC]
 refine Qt.done ?_
 refine wp_seq ?_
 refine Qt.wp_tail 5 (by kernel_rfl) (by kernel_rfl) ?_
 refine y_r rfl _ rfl (b8) ((((p).x) + ((p).y)) * (((q).x) + ((q).y))) rfl HV8_m.out ?_
 refine y_r rfl _ rfl (b3) (((p).x) * ((q).x)) rfl HV8_c.out ?_
 refine Qt.y_call rfl 42 #[.agg (rn ((((p).x) + ((p).y)) * (((q).x) + ((q).y)))), .agg (rn (((p).x) * ((q).x)))] _ (fun _ => by kernel_rfl) (fun w' _ => sub_d ((((p).x) + ((p).y)) * (((q).x) + ((q).y))) (((p).x) * ((q).x)) w') ?_
 simp only [Act.put, zA, zB, zC]
 refine y_r rfl _ rfl (b4) (((p).y) * ((q).y)) rfl HV8_e.out ?_
 refine Qt.y_call rfl 42 #[.agg (rn (((((p).x) + ((p).y)) * (((q).x) + ((q).y))) - (((p).x) * ((q).x)))), .agg (rn (((p).y) * ((q).y)))] _ (fun _ => by kernel_rfl) (fun w' _ => sub_d (((((p).x) + ((p).y)) * (((q).x) + ((q).y))) - (((p).x) * ((q).x))) (((p).y) * ((q).y)) w') ?_
 simp only [Act.put, zA, zB, zC]
 skip
 refine Qt.y_nil ?_
 intro wa9 hb2
 have HX : Hid (Below (w8).heap.size (w8) wa9) := by first | exact hb2 | exact hb2.mono (by simp)
 have HO : Hid (RAt wa9 (b8) ((((p).x) + ((p).y)) * (((q).x) + ((q).y)))) := HV8_m.out.below HX.out HV8_m.out.lt
 refine store_r rfl _ _ rfl (b8) ((((((p).x) + ((p).y)) * (((q).x) + ((q).y))) - (((p).x) * ((q).x))) - (((p).y) * ((q).y))) _ (rn_size _) rfl rfl HO.out ?_
 obtain ⟨w9, hw2⟩ : ∃ w2, w2 = wa9.setRow (b8) (rn ((((((p).x) + ((p).y)) * (((q).x) + ((q).y))) - (((p).x) * ((q).x))) - (((p).y) * ((q).y)))) := ⟨_, rfl⟩
 rw [← hw2]
 have HV9_m : Hid (RAt w9 (b8) ((((((p).x) + ((p).y)) * (((q).x) + ((q).y))) - (((p).x) * ((q).x))) - (((p).y) * ((q).y)))) := by rw [hw2]; exact RAt.setRow HO.out _
 have HV9_p : Hid (TAt w9 (w.heap.size) (p)) := by rw [hw2]; exact (HV8_p.out.below HX.out HV8_p.out.lt).other HN_p_m.out _
 have HV9_q : Hid (TAt w9 (w.heap.size + 1) (q)) := by rw [hw2]; exact (HV8_q.out.below HX.out HV8_q.out.lt).other HN_q_m.out _
 have HV9_d : Hid (RAt w9 (w.heap.size + 1 + 1) (d)) := by rw [hw2]; exact (HV8_d.out.below HX.out HV8_d.out.lt).other HN_d_m.out _
 have HV9_a : Hid (RAt w9 (b1) (((p).z) * ((q).z))) := by rw [hw2]; exact (HV8_a.out.below HX.out HV8_a.out.lt).other HN_a_m.out _
 have HV9_b : Hid (RAt w9 (b2) ((((p).z) * ((q).z)) * (((p).z) * ((q).z)))) := by rw [hw2]; exact (HV8_b.out.below HX.out HV8_b.out.lt).other HN_b_m.out _
 have HV9_c : Hid (RAt w9 (b3) (((p).x) * ((q).x))) := by rw [hw2]; exact (HV8_c.out.below HX.out HV8_c.out.lt).other HN_c_m.out _
 have HV9_e : Hid (RAt w9 (b4) (((p).y) * ((q).y))) := by rw [hw2]; exact (HV8_e.out.below HX.out HV8_e.out.lt).other HN_e_m.out _
 have HV9_k : Hid (RAt w9 (b5) ((d) * ((((p).x) * ((q).x)) * (((p).y) * ((q).y))))) := by rw [hw2]; exact (HV8_k.out.below HX.out HV8_k.out.lt).other HN_k_m.out _
 have HV9_f : Hid (RAt w9 (b6) (((((p).z) * ((q).z)) * (((p).z) * ((q).z))) - ((d) * ((((p).x) * ((q).x)) * (((p).y) * ((q).y)))))) := by rw [hw2]; exact (HV8_f.out.below HX.out HV8_f.out.lt).other HN_f_m.out _
 have HV9_g : Hid (RAt w9 (b7) (((((p).z) * ((q).z)) * (((p).z) * ((q).z))) + ((d) * ((((p).x) * ((q).x)) * (((p).y) * ((q).y)))))) := by rw [hw2]; exact (HV8_g.out.below HX.out HV8_g.out.lt).other HN_g_m.out _
 have HV9_res : Hid (TAt w9 (w.heap.size + 1 + 1 + 1) (t0)) := by rw [hw2]; exact (HV8_res.out.below HX.out HV8_res.out.lt).other HN_res_m.out _
 have HB_9 : Hid (Below w.heap.size w w9) := by rw [hw2]; exact (HB_8.out.trans (HX.out.mono HB_8.out.size)).trans ((Fw.below_setRow _ _ _).mono HG_m.out)
 clear hb2 HX HO hw2
 simp only [Act.put]
 refine Qt.done ?_
 refine wp_seq ?_
 refine Qt.wp_tail 16 (by kernel_rfl) (by kernel_rfl) ?_
 refine y_r rfl _ rfl (b1) (((p).z) * ((q).z)) rfl HV9_a.out ?_
 refine y_r rfl _ rfl (b6) (((((p).z) * ((q).z)) * (((p).z) * ((q).z))) - ((d) * ((((p).x) * ((q).x)) * (((p).y) * ((q).y))))) rfl HV9_f.out ?_
 refine y_r rfl _ rfl (b8) ((((((p).x) + ((p).y)) * (((q).x) + ((q).y))) - (((p).x) * ((q).x))) - (((p).y) * ((q).y))) rfl HV9_m.out ?_
 refine Qt.y_call rfl 93 #[.agg (rn (((((p).z) * ((q).z)) * (((p).z) * ((q).z))) - ((d) * ((((p).x) * ((q).x)) * (((p).y) * ((q).y)))))), .agg (rn ((((((p).x) + ((p).y)) * (((q).x) + ((q).y))) - (((p).x) * ((q).x))) - (((p).y) * ((q).y))))] _ (fun _ => by kernel_rfl) (fun w' _ => mul_d (((((p).z) * ((q).z)) * (((p).z) * ((q).z))) - ((d) * ((((p).x) * ((q).x)) * (((p).y) * ((q).y))))) ((((((p).x) + ((p).y)) * (((q).x) + ((q).y))) - (((p).x) * ((q).x))) - (((p).y) * ((q).y))) w') ?_
 simp only [Act.put, zA, zB, zC]
 refine Qt.y_call rfl 93 #[.agg (rn (((p).z) * ((q).z))), .agg (rn ((((((p).z) * ((q).z)) * (((p).z) * ((q).z))) - ((d) * ((((p).x) * ((q).x)) * (((p).y) * ((q).y))))) * ((((((p).x) + ((p).y)) * (((q).x) + ((q).y))) - (((p).x) * ((q).x))) - (((p).y) * ((q).y)))))] _ (fun _ => by kernel_rfl) (fun w' _ => mul_d (((p).z) * ((q).z)) ((((((p).z) * ((q).z)) * (((p).z) * ((q).z))) - ((d) * ((((p).x) * ((q).x)) * (((p).y) * ((q).y))))) * ((((((p).x) + ((p).y)) * (((q).x) + ((q).y))) - (((p).x) * ((q).x))) - (((p).y) * ((q).y)))) w') ?_
 simp only [Act.put, zA, zB, zC]
 refine y_r rfl _ rfl (b1) (((p).z) * ((q).z)) rfl HV9_a.out ?_
 refine y_r rfl _ rfl (b7) (((((p).z) * ((q).z)) * (((p).z) * ((q).z))) + ((d) * ((((p).x) * ((q).x)) * (((p).y) * ((q).y))))) rfl HV9_g.out ?_
 refine y_r rfl _ rfl (b4) (((p).y) * ((q).y)) rfl HV9_e.out ?_
 refine y_r rfl _ rfl (b3) (((p).x) * ((q).x)) rfl HV9_c.out ?_
 refine Qt.y_call rfl 94 #[.agg (rn (((p).y) * ((q).y))), .agg (rn (((p).x) * ((q).x)))] _ (fun _ => by kernel_rfl) (fun w' _ => add_d (((p).y) * ((q).y)) (((p).x) * ((q).x)) w') ?_
 simp only [Act.put, zA, zB, zC]
 refine Qt.y_call rfl 93 #[.agg (rn (((((p).z) * ((q).z)) * (((p).z) * ((q).z))) + ((d) * ((((p).x) * ((q).x)) * (((p).y) * ((q).y)))))), .agg (rn ((((p).y) * ((q).y)) + (((p).x) * ((q).x))))] _ (fun _ => by kernel_rfl) (fun w' _ => mul_d (((((p).z) * ((q).z)) * (((p).z) * ((q).z))) + ((d) * ((((p).x) * ((q).x)) * (((p).y) * ((q).y))))) ((((p).y) * ((q).y)) + (((p).x) * ((q).x))) w') ?_
 simp only [Act.put, zA, zB, zC]
 refine Qt.y_call rfl 93 #[.agg (rn (((p).z) * ((q).z))), .agg (rn ((((((p).z) * ((q).z)) * (((p).z) * ((q).z))) + ((d) * ((((p).x) * ((q).x)) * (((p).y) * ((q).y))))) * ((((p).y) * ((q).y)) + (((p).x) * ((q).x)))))] _ (fun _ => by kernel_rfl) (fun w' _ => mul_d (((p).z) * ((q).z)) ((((((p).z) * ((q).z)) * (((p).z) * ((q).z))) + ((d) * ((((p).x) * ((q).x)) * (((p).y) * ((q).y))))) * ((((p).y) * ((q).y)) + (((p).x) * ((q).x)))) w') ?_
 simp only [Act.put, zA, zB, zC]
 refine y_r rfl _ rfl (b6) (((((p).z) * ((q).z)) * (((p).z) * ((q).z))) - ((d) * ((((p).x) * ((q).x)) * (((p).y) * ((q).y))))) rfl HV9_f.out ?_
 refine y_r rfl _ rfl (b7) (((((p).z) * ((q).z)) * (((p).z) * ((q).z))) + ((d) * ((((p).x) * ((q).x)) * (((p).y) * ((q).y))))) rfl HV9_g.out ?_
 refine Qt.y_call rfl 93 #[.agg (rn (((((p).z) * ((q).z)) * (((p).z) * ((q).z))) - ((d) * ((((p).x) * ((q).x)) * (((p).y) * ((q).y)))))), .agg (rn (((((p).z) * ((q).z)) * (((p).z) * ((q).z))) + ((d) * ((((p).x) * ((q).x)) * (((p).y) * ((q).y))))))] _ (fun _ => by kernel_rfl) (fun w' _ => mul_d (((((p).z) * ((q).z)) * (((p).z) * ((q).z))) - ((d) * ((((p).x) * ((q).x)) * (((p).y) * ((q).y))))) (((((p).z) * ((q).z)) * (((p).z) * ((q).z))) + ((d) * ((((p).x) * ((q).x)) * (((p).y) * ((q).y))))) w') ?_
 simp only [Act.put, zA, zB, zC]
 refine y_bt rfl _ rfl (tsumD d p q) (by kernel_rfl) ?_
 simp only [Act.put, zA, zB, zC]
 refine Qt.y_nil ?_
 intro wz hb2
 have HX : Hid (Below (w9).heap.size (w9) wz) := hb2
 have HO : Hid (TAt wz (w.heap.size + 1 + 1 + 1) t0) := HV9_res.out.below HX.out HV9_res.out.lt
 refine store_t rfl _ _ rfl (w.heap.size + 1 + 1 + 1) (tsumD d p q) t0 rfl rfl HO.out ?_
 simp only [Act.put]
 refine Qt.done ?_
 go_wp2_with fail
 exact ret_t Tryz.results47 rfl (w.heap.size + 1 + 1 + 1) (tsumD d p q) rfl (HO.out.setRow _) ⟨rfl, Fw.below_store HB_9.out HX.out _ (by omega) _⟩
end Dc
end Go.Proofs.YtbojijefenfbgaaGreatDoor
