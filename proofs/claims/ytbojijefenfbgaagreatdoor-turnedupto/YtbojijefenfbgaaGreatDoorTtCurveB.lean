/- Walks of the program's curve: fromQuotients, Add, Double. (Laid by wip/gen/curveb.py.) Walks of the program's curve: Zero, Base, multiples. Walks of the program's curve: multiples. -/
import Derived.Test.YtbojijefenfbgaaGreatDoorTtFieldG
set_option maxRecDepth 100000
namespace Go.Proofs.YtbojijefenfbgaaGreatDoor
open Go.RowKit
namespace Cw
open Fw
theorem j3i (w : World) : Calls Tryz.prog 239 #[] w fun e w' => e = .returned (.agg (fw (Ed.dD + Ed.dD))) ∧ Below w.heap.size w w' := by
 rw [y2r (Ed.dD + Ed.dD) 16993941304535871833 63073048630374742 1841551078520508720 2596001775599221991 (by decide) (by decide) (by decide) (by decide) (by decide)]
 go_enter Tryz.func239, Tryz.ntmps239
 go_wp2_with fail
 exact Own.z1g Tryz.results239 rfl w.heap.size 161 _ (0, 0) _ rfl (heap_alloc_new _ _) Tryz.underlying161 rfl (by kernel_rfl) ⟨rfl, (Below.refl _ _).alloc (Nat.le_refl _) _⟩
theorem q1r (w : World) : Calls Tryz.prog 228 #[] w fun e w' => e = .returned (.agg (fw Ed.dD)) ∧ Below w.heap.size w w' := by
 rw [y2r Ed.dD 8496970652267935907 31536524315187371 10144147576115030168 5909686906226998899 (by decide) (by decide) (by decide) (by decide) (by decide)]
 go_enter Tryz.func228, Tryz.ntmps228
 go_wp2_with fail
 exact Own.z1g Tryz.results228 rfl w.heap.size 161 _ (0, 0) _ rfl (heap_alloc_new _ _) Tryz.underlying161 rfl (by kernel_rfl) ⟨rfl, (Below.refl _ _).alloc (Nat.le_refl _) _⟩
noncomputable abbrev V3 (w : World) (e f : Ed.E) : World := ((w.alloc (.cells (pw e) 163)).alloc (.cells (pw f) 163)).alloc (.cells z4q 163)
theorem j2i (w : World) (e f : Ed.E) : PAt (V3 w e f) w.heap.size e := PAt.below (z0d w _ _ rfl) (((Below.refl (w.heap.size + 1) _).alloc (by simp) _).alloc (by simp) _) (by omega)
theorem j2k (w : World) (e f : Ed.E) : PAt (V3 w e f) (w.heap.size + 1) f := PAt.below (z0d _ _ _ (by simp)) ((Below.refl (w.heap.size + 2) _).alloc (by simp) _) (by omega)
theorem j2l (w : World) (e f : Ed.E) : PAt (V3 w e f) (w.heap.size + 1 + 1) e0 := .zero (z0d _ _ _ (by simp))
theorem j2j (w : World) (e f : Ed.E) : Below w.heap.size w (V3 w e f) := (((Below.refl _ _).alloc (Nat.le_refl _) _).alloc (by simp) _).alloc (by simp; omega) _
theorem PAt.other {w : World} {b c : Nat} {e : Ed.E} (h : PAt w b e) (hne : b ≠ c) (cs : Array Value) : PAt (w.setRow c cs) b e := by
 unfold PAt at *
 rw [← h]
 show (Array.modify _ _ _)[b]? = _
 rw [Array.getElem?_modify, if_neg (Ne.symm hne)]
noncomputable abbrev U5 (w : World) (x y z t : Ed.F) : World := ((((w.alloc (.cells (fw x) 161)).alloc (.cells (fw y) 161)).alloc (.cells (fw z) 161)).alloc (.cells (fw t) 161)).alloc (.cells z4q 163)
theorem j2e (w : World) (x y z t : Ed.F) : WAt (U5 w x y z t) w.heap.size x := WAt.below (z0d w _ _ rfl) (((((Below.refl (w.heap.size + 1) _).alloc (by simp) _).alloc (by simp) _).alloc (by simp) _).alloc (by simp) _) (by omega)
theorem j2f (w : World) (x y z t : Ed.F) : WAt (U5 w x y z t) (w.heap.size + 1) y := WAt.below (z0d _ _ _ (by simp)) ((((Below.refl (w.heap.size + 2) _).alloc (by simp) _).alloc (by simp) _).alloc (by simp) _) (by omega)
theorem j2g (w : World) (x y z t : Ed.F) : WAt (U5 w x y z t) (w.heap.size + 1 + 1) z := WAt.below (z0d _ _ _ (by simp)) (((Below.refl (w.heap.size + 3) _).alloc (by simp) _).alloc (by simp) _) (by omega)
theorem j2d (w : World) (x y z t : Ed.F) : WAt (U5 w x y z t) (w.heap.size + 1 + 1 + 1) t := WAt.below (z0d _ _ _ (by simp)) ((Below.refl (w.heap.size + 4) _).alloc (by simp) _) (by omega)
theorem j2c (w : World) (x y z t : Ed.F) : PAt (U5 w x y z t) (w.heap.size + 1 + 1 + 1 + 1) e0 := .zero (z0d _ _ _ (by simp))
theorem j2b (w : World) (x y z t : Ed.F) : Below w.heap.size w (U5 w x y z t) := (((((Below.refl _ _).alloc (Nat.le_refl _) _).alloc (by simp) _).alloc (by simp; omega) _).alloc (by simp; omega) _).alloc (by simp; omega) _
set_option maxHeartbeats 1000000 in
theorem q6i (x y z t : Ed.F) (w : World) :
  Calls Tryz.prog 238 #[.agg (fw x), .agg (fw y), .agg (fw z), .agg (fw t)] w fun e w' => e = .returned (.agg (pw (Ed.quot x y z t))) ∧ Below w.heap.size w w' := by
 have HV_e : Hid (WAt (U5 w x y z t) (w.heap.size) (x)) := j2e w x y z t
 have HV_f : Hid (WAt (U5 w x y z t) (w.heap.size + 1) (y)) := j2f w x y z t
 have HV_g : Hid (WAt (U5 w x y z t) (w.heap.size + 1 + 1) (z)) := j2g w x y z t
 have HV_h : Hid (WAt (U5 w x y z t) (w.heap.size + 1 + 1 + 1) (t)) := j2d w x y z t
 have HV_res : Hid (PAt (U5 w x y z t) (w.heap.size + 1 + 1 + 1 + 1) e0) := j2c w x y z t
 have HB_ : Hid (Below w.heap.size w (U5 w x y z t)) := j2b w x y z t
 go_enter Tryz.func238, Tryz.ntmps238
 go_wp2_with fail
 rename_i Kq hKq
 refine Qt.z0q 13 (by kernel_rfl) (by kernel_rfl) ?_
 refine z0m rfl _ rfl (w.heap.size) (x) rfl HV_e.out ?_
 refine z0m rfl _ rfl (w.heap.size + 1) (y) rfl HV_f.out ?_
 refine Qt.z0e rfl 179 #[.agg (fw (x)), .agg (fw (y))] _ (fun _ => by kernel_rfl) (fun w' _ => z3x (x) (y) w') ?_
 simp only [zD]
 refine z0m rfl _ rfl (w.heap.size + 1 + 1) (z) rfl HV_g.out ?_
 refine z0m rfl _ rfl (w.heap.size + 1 + 1 + 1) (t) rfl HV_h.out ?_
 refine Qt.z0e rfl 179 #[.agg (fw (z)), .agg (fw (t))] _ (fun _ => by kernel_rfl) (fun w' _ => z3x (z) (t) w') ?_
 simp only [zD]
 refine z0m rfl _ rfl (w.heap.size + 1) (y) rfl HV_f.out ?_
 refine z0m rfl _ rfl (w.heap.size + 1 + 1) (z) rfl HV_g.out ?_
 refine Qt.z0e rfl 179 #[.agg (fw (y)), .agg (fw (z))] _ (fun _ => by kernel_rfl) (fun w' _ => z3x (y) (z) w') ?_
 simp only [zD]
 refine z0m rfl _ rfl (w.heap.size) (x) rfl HV_e.out ?_
 refine z0m rfl _ rfl (w.heap.size + 1 + 1 + 1) (t) rfl HV_h.out ?_
 refine Qt.z0e rfl 179 #[.agg (fw (x)), .agg (fw (t))] _ (fun _ => by kernel_rfl) (fun w' _ => z3x (x) (t) w') ?_
 simp only [zD]
 refine x0e rfl _ rfl (Ed.quot x y z t) (by kernel_rfl) ?_
 simp only [zD]
 refine Qt.z1a ?_
 intro wz hb2
 have HX : Hid (Below (U5 w x y z t).heap.size (U5 w x y z t) wz) := hb2
 have HO : Hid (PAt wz (w.heap.size + 1 + 1 + 1 + 1) e0) := HV_res.out.below HX.out HV_res.out.lt
 refine z2z rfl _ _ rfl (w.heap.size + 1 + 1 + 1 + 1) (Ed.quot x y z t) e0 rfl rfl HO.out ?_
 simp only [Act.put]
 refine Qt.done ?_
 refine hKq _ _ ?_
 go_wp2_with fail
 exact y7m Tryz.results238 rfl (w.heap.size + 1 + 1 + 1 + 1) (Ed.quot x y z t) rfl (HO.out.setRow _) ⟨rfl, z0r HB_.out HX.out _ (by omega) _⟩
set_option maxHeartbeats 1000000 in
theorem k2x (p q : Ed.E) (w : World) :
  Calls Tryz.prog 176 #[.agg (pw p), .agg (pw q)] w fun e w' => e = .returned (.agg (pw (Ed.y8m p q))) ∧ Below w.heap.size w w' := by
 have HV_p : Hid (PAt (V3 w p q) (w.heap.size) (p)) := j2i w p q
 have HV_q : Hid (PAt (V3 w p q) (w.heap.size + 1) (q)) := j2k w p q
 have HV_res : Hid (PAt (V3 w p q) (w.heap.size + 1 + 1) e0) := j2l w p q
 have HB_ : Hid (Below w.heap.size w (V3 w p q)) := j2j w p q
 go_enter Tryz.func176, Tryz.ntmps176
 go_wp2_with fail
 rename_i Kq hKq
 refine Qt.y2b 11 (by kernel_rfl) (by kernel_rfl) _ rfl 161 rfl z0l (by kernel_rfl) ?_
 refine Qt.z0b rfl (.pointer (some ⟨w.heap.size, 4, none⟩)) (fun _ _ => by kernel_rfl) ?_
 refine z4a rfl _ rfl (w.heap.size) 4 ((p).y) rfl HV_p.out.lt HV_p.out.y ?_
 simp only [zD]
 refine Qt.z0b rfl (.pointer (some ⟨w.heap.size, 0, none⟩)) (fun _ _ => by kernel_rfl) ?_
 refine z4a rfl _ rfl (w.heap.size) 0 ((p).x) rfl HV_p.out.lt HV_p.out.x ?_
 simp only [zD]
 refine Qt.z0e rfl 226 #[.agg (fw ((p).y)), .agg (fw ((p).x))] _ (fun _ => by kernel_rfl) (fun w' _ => y2m ((p).y) ((p).x) w') ?_
 simp only [zD]
 refine Qt.z0b rfl (.pointer (some ⟨w.heap.size + 1, 4, none⟩)) (fun _ _ => by kernel_rfl) ?_
 refine z4a rfl _ rfl (w.heap.size + 1) 4 ((q).y) rfl HV_q.out.lt HV_q.out.y ?_
 simp only [zD]
 refine Qt.z0b rfl (.pointer (some ⟨w.heap.size + 1, 0, none⟩)) (fun _ _ => by kernel_rfl) ?_
 refine z4a rfl _ rfl (w.heap.size + 1) 0 ((q).x) rfl HV_q.out.lt HV_q.out.x ?_
 simp only [zD]
 refine Qt.z0e rfl 226 #[.agg (fw ((q).y)), .agg (fw ((q).x))] _ (fun _ => by kernel_rfl) (fun w' _ => y2m ((q).y) ((q).x) w') ?_
 simp only [zD]
 refine Qt.z0e rfl 179 #[.agg (fw (((p).y) - ((p).x))), .agg (fw (((q).y) - ((q).x)))] _ (fun _ => by kernel_rfl) (fun w' _ => z3x (((p).y) - ((p).x)) (((q).y) - ((q).x)) w') ?_
 simp only [zD]
 skip
 refine Qt.z1a ?_
 intro b1 wa1 hw1 hle hb
 have hw1 : Below (V3 w p q).heap.size (V3 w p q) wa1 := by first | exact hw1 | exact hw1.mono (by simp)
 have hle : (V3 w p q).heap.size ≤ b1 := by first | exact hle | exact Nat.le_trans (by simp) hle
 refine z2v rfl rfl b1 ((((p).y) - ((p).x)) * (((q).y) - ((q).x))) rfl rfl hw1 hle hb ?_
 intro w1 hW hb2
 have HX : Hid (Below (V3 w p q).heap.size (V3 w p q) w1) := hb2
 have HV1_a : Hid (WAt w1 b1 ((((p).y) - ((p).x)) * (((q).y) - ((q).x)))) := hW
 have HN_p_a : Hid (w.heap.size ≠ b1) := by have h1 := HV_p.out.lt; have h2 := hle; show _ ≠ _; omega
 have HN_q_a : Hid (w.heap.size + 1 ≠ b1) := by have h1 := HV_q.out.lt; have h2 := hle; show _ ≠ _; omega
 have HN_res_a : Hid (w.heap.size + 1 + 1 ≠ b1) := by have h1 := HV_res.out.lt; have h2 := hle; show _ ≠ _; omega
 have HG_a : Hid (w.heap.size ≤ b1) := Nat.le_trans HB_.out.size hle
 have HV1_p : Hid (PAt w1 (w.heap.size) (p)) := HV_p.out.below HX.out HV_p.out.lt
 have HV1_q : Hid (PAt w1 (w.heap.size + 1) (q)) := HV_q.out.below HX.out HV_q.out.lt
 have HV1_res : Hid (PAt w1 (w.heap.size + 1 + 1) e0) := HV_res.out.below HX.out HV_res.out.lt
 have HB_1 : Hid (Below w.heap.size w w1) := HB_.out.trans (HX.out.mono HB_.out.size)
 clear hW hb2 hb hle hw1 HX
 simp only [zD]
 refine Qt.done ?_
 refine hKq _ _ ?_
 refine wp_seq ?_
 refine Qt.y2b 11 (by kernel_rfl) (by kernel_rfl) _ rfl 161 rfl z0l (by kernel_rfl) ?_
 refine Qt.z0b rfl (.pointer (some ⟨w.heap.size, 4, none⟩)) (fun _ _ => by kernel_rfl) ?_
 refine z4a rfl _ rfl (w.heap.size) 4 ((p).y) rfl HV1_p.out.lt HV1_p.out.y ?_
 simp only [zD]
 refine Qt.z0b rfl (.pointer (some ⟨w.heap.size, 0, none⟩)) (fun _ _ => by kernel_rfl) ?_
 refine z4a rfl _ rfl (w.heap.size) 0 ((p).x) rfl HV1_p.out.lt HV1_p.out.x ?_
 simp only [zD]
 refine Qt.z0e rfl 229 #[.agg (fw ((p).y)), .agg (fw ((p).x))] _ (fun _ => by kernel_rfl) (fun w' _ => y3h ((p).y) ((p).x) w') ?_
 simp only [zD]
 refine Qt.z0b rfl (.pointer (some ⟨w.heap.size + 1, 4, none⟩)) (fun _ _ => by kernel_rfl) ?_
 refine z4a rfl _ rfl (w.heap.size + 1) 4 ((q).y) rfl HV1_q.out.lt HV1_q.out.y ?_
 simp only [zD]
 refine Qt.z0b rfl (.pointer (some ⟨w.heap.size + 1, 0, none⟩)) (fun _ _ => by kernel_rfl) ?_
 refine z4a rfl _ rfl (w.heap.size + 1) 0 ((q).x) rfl HV1_q.out.lt HV1_q.out.x ?_
 simp only [zD]
 refine Qt.z0e rfl 229 #[.agg (fw ((q).y)), .agg (fw ((q).x))] _ (fun _ => by kernel_rfl) (fun w' _ => y3h ((q).y) ((q).x) w') ?_
 simp only [zD]
 refine Qt.z0e rfl 179 #[.agg (fw (((p).y) + ((p).x))), .agg (fw (((q).y) + ((q).x)))] _ (fun _ => by kernel_rfl) (fun w' _ => z3x (((p).y) + ((p).x)) (((q).y) + ((q).x)) w') ?_
 simp only [zD]
 skip
 refine Qt.z1a ?_
 intro b2 wa2 hw1 hle hb
 have hw1 : Below (w1).heap.size (w1) wa2 := by first | exact hw1 | exact hw1.mono (by simp)
 have hle : (w1).heap.size ≤ b2 := by first | exact hle | exact Nat.le_trans (by simp) hle
 refine z2v rfl rfl b2 ((((p).y) + ((p).x)) * (((q).y) + ((q).x))) rfl rfl hw1 hle hb ?_
 intro w2 hW hb2
 have HX : Hid (Below (w1).heap.size (w1) w2) := hb2
 have HV2_b : Hid (WAt w2 b2 ((((p).y) + ((p).x)) * (((q).y) + ((q).x)))) := hW
 have HN_p_b : Hid (w.heap.size ≠ b2) := by have h1 := HV1_p.out.lt; have h2 := hle; show _ ≠ _; omega
 have HN_q_b : Hid (w.heap.size + 1 ≠ b2) := by have h1 := HV1_q.out.lt; have h2 := hle; show _ ≠ _; omega
 have HN_a_b : Hid (b1 ≠ b2) := by have h1 := HV1_a.out.lt; have h2 := hle; show _ ≠ _; omega
 have HN_res_b : Hid (w.heap.size + 1 + 1 ≠ b2) := by have h1 := HV1_res.out.lt; have h2 := hle; show _ ≠ _; omega
 have HG_b : Hid (w.heap.size ≤ b2) := Nat.le_trans HB_1.out.size hle
 have HV2_p : Hid (PAt w2 (w.heap.size) (p)) := HV1_p.out.below HX.out HV1_p.out.lt
 have HV2_q : Hid (PAt w2 (w.heap.size + 1) (q)) := HV1_q.out.below HX.out HV1_q.out.lt
 have HV2_a : Hid (WAt w2 (b1) ((((p).y) - ((p).x)) * (((q).y) - ((q).x)))) := HV1_a.out.below HX.out HV1_a.out.lt
 have HV2_res : Hid (PAt w2 (w.heap.size + 1 + 1) e0) := HV1_res.out.below HX.out HV1_res.out.lt
 have HB_2 : Hid (Below w.heap.size w w2) := HB_1.out.trans (HX.out.mono HB_1.out.size)
 clear hW hb2 hb hle hw1 HX
 simp only [zD]
 refine Qt.done ?_
 refine wp_seq ?_
 refine Qt.y2b 7 (by kernel_rfl) (by kernel_rfl) _ rfl 161 rfl z0l (by kernel_rfl) ?_
 refine Qt.z0b rfl (.pointer (some ⟨w.heap.size, 12, none⟩)) (fun _ _ => by kernel_rfl) ?_
 refine z4a rfl _ rfl (w.heap.size) 12 ((p).t) rfl HV2_p.out.lt HV2_p.out.t ?_
 simp only [zD]
 refine Qt.z0e rfl 239 #[] (.agg (fw (Ed.dD + Ed.dD))) (fun _ => by kernel_rfl) (fun w' _ => j3i w') ?_
 simp only [zD]
 refine Qt.z0e rfl 179 #[.agg (fw ((p).t)), .agg (fw (Ed.dD + Ed.dD))] _ (fun _ => by kernel_rfl) (fun w' _ => z3x ((p).t) (Ed.dD + Ed.dD) w') ?_
 simp only [zD]
 refine Qt.z0b rfl (.pointer (some ⟨w.heap.size + 1, 12, none⟩)) (fun _ _ => by kernel_rfl) ?_
 refine z4a rfl _ rfl (w.heap.size + 1) 12 ((q).t) rfl HV2_q.out.lt HV2_q.out.t ?_
 simp only [zD]
 refine Qt.z0e rfl 179 #[.agg (fw (((p).t) * (Ed.dD + Ed.dD))), .agg (fw ((q).t))] _ (fun _ => by kernel_rfl) (fun w' _ => z3x (((p).t) * (Ed.dD + Ed.dD)) ((q).t) w') ?_
 simp only [zD]
 skip
 refine Qt.z1a ?_
 intro b3 wa3 hw1 hle hb
 have hw1 : Below (w2).heap.size (w2) wa3 := by first | exact hw1 | exact hw1.mono (by simp)
 have hle : (w2).heap.size ≤ b3 := by first | exact hle | exact Nat.le_trans (by simp) hle
 refine z2v rfl rfl b3 ((((p).t) * (Ed.dD + Ed.dD)) * ((q).t)) rfl rfl hw1 hle hb ?_
 intro w3 hW hb2
 have HX : Hid (Below (w2).heap.size (w2) w3) := hb2
 have HV3_c : Hid (WAt w3 b3 ((((p).t) * (Ed.dD + Ed.dD)) * ((q).t))) := hW
 have HN_p_c : Hid (w.heap.size ≠ b3) := by have h1 := HV2_p.out.lt; have h2 := hle; show _ ≠ _; omega
 have HN_q_c : Hid (w.heap.size + 1 ≠ b3) := by have h1 := HV2_q.out.lt; have h2 := hle; show _ ≠ _; omega
 have HN_a_c : Hid (b1 ≠ b3) := by have h1 := HV2_a.out.lt; have h2 := hle; show _ ≠ _; omega
 have HN_b_c : Hid (b2 ≠ b3) := by have h1 := HV2_b.out.lt; have h2 := hle; show _ ≠ _; omega
 have HN_res_c : Hid (w.heap.size + 1 + 1 ≠ b3) := by have h1 := HV2_res.out.lt; have h2 := hle; show _ ≠ _; omega
 have HG_c : Hid (w.heap.size ≤ b3) := Nat.le_trans HB_2.out.size hle
 have HV3_p : Hid (PAt w3 (w.heap.size) (p)) := HV2_p.out.below HX.out HV2_p.out.lt
 have HV3_q : Hid (PAt w3 (w.heap.size + 1) (q)) := HV2_q.out.below HX.out HV2_q.out.lt
 have HV3_a : Hid (WAt w3 (b1) ((((p).y) - ((p).x)) * (((q).y) - ((q).x)))) := HV2_a.out.below HX.out HV2_a.out.lt
 have HV3_b : Hid (WAt w3 (b2) ((((p).y) + ((p).x)) * (((q).y) + ((q).x)))) := HV2_b.out.below HX.out HV2_b.out.lt
 have HV3_res : Hid (PAt w3 (w.heap.size + 1 + 1) e0) := HV2_res.out.below HX.out HV2_res.out.lt
 have HB_3 : Hid (Below w.heap.size w w3) := HB_2.out.trans (HX.out.mono HB_2.out.size)
 clear hW hb2 hb hle hw1 HX
 simp only [zD]
 refine Qt.done ?_
 refine wp_seq ?_
 refine Qt.y2c 5 _ rfl 161 rfl z0l (by kernel_rfl) rfl ?_
 refine Qt.z0b rfl (.pointer (some ⟨w.heap.size, 8, none⟩)) (fun _ _ => by kernel_rfl) ?_
 refine z4a rfl _ rfl (w.heap.size) 8 ((p).z) rfl HV3_p.out.lt HV3_p.out.z ?_
 simp only [zD]
 refine Qt.z0b rfl (.pointer (some ⟨w.heap.size + 1, 8, none⟩)) (fun _ _ => by kernel_rfl) ?_
 refine z4a rfl _ rfl (w.heap.size + 1) 8 ((q).z) rfl HV3_q.out.lt HV3_q.out.z ?_
 simp only [zD]
 refine Qt.z0e rfl 179 #[.agg (fw ((p).z)), .agg (fw ((q).z))] _ (fun _ => by kernel_rfl) (fun w' _ => z3x ((p).z) ((q).z) w') ?_
 simp only [zD]
 skip
 refine Qt.z1a ?_
 intro b4 wa4 hw1 hle hb
 have hw1 : Below (w3).heap.size (w3) wa4 := by first | exact hw1 | exact hw1.mono (by simp)
 have hle : (w3).heap.size ≤ b4 := by first | exact hle | exact Nat.le_trans (by simp) hle
 refine z2v rfl rfl b4 (((p).z) * ((q).z)) rfl rfl hw1 hle hb ?_
 intro w4 hW hb2
 have HX : Hid (Below (w3).heap.size (w3) w4) := hb2
 have HV4_d : Hid (WAt w4 b4 (((p).z) * ((q).z))) := hW
 have HN_p_d : Hid (w.heap.size ≠ b4) := by have h1 := HV3_p.out.lt; have h2 := hle; show _ ≠ _; omega
 have HN_q_d : Hid (w.heap.size + 1 ≠ b4) := by have h1 := HV3_q.out.lt; have h2 := hle; show _ ≠ _; omega
 have HN_a_d : Hid (b1 ≠ b4) := by have h1 := HV3_a.out.lt; have h2 := hle; show _ ≠ _; omega
 have HN_b_d : Hid (b2 ≠ b4) := by have h1 := HV3_b.out.lt; have h2 := hle; show _ ≠ _; omega
 have HN_c_d : Hid (b3 ≠ b4) := by have h1 := HV3_c.out.lt; have h2 := hle; show _ ≠ _; omega
 have HN_res_d : Hid (w.heap.size + 1 + 1 ≠ b4) := by have h1 := HV3_res.out.lt; have h2 := hle; show _ ≠ _; omega
 have HG_d : Hid (w.heap.size ≤ b4) := Nat.le_trans HB_3.out.size hle
 have HV4_p : Hid (PAt w4 (w.heap.size) (p)) := HV3_p.out.below HX.out HV3_p.out.lt
 have HV4_q : Hid (PAt w4 (w.heap.size + 1) (q)) := HV3_q.out.below HX.out HV3_q.out.lt
 have HV4_a : Hid (WAt w4 (b1) ((((p).y) - ((p).x)) * (((q).y) - ((q).x)))) := HV3_a.out.below HX.out HV3_a.out.lt
 have HV4_b : Hid (WAt w4 (b2) ((((p).y) + ((p).x)) * (((q).y) + ((q).x)))) := HV3_b.out.below HX.out HV3_b.out.lt
 have HV4_c : Hid (WAt w4 (b3) ((((p).t) * (Ed.dD + Ed.dD)) * ((q).t))) := HV3_c.out.below HX.out HV3_c.out.lt
 have HV4_res : Hid (PAt w4 (w.heap.size + 1 + 1) e0) := HV3_res.out.below HX.out HV3_res.out.lt
 have HB_4 : Hid (Below w.heap.size w w4) := HB_3.out.trans (HX.out.mono HB_3.out.size)
 clear hW hb2 hb hle hw1 HX
 simp only [zD]
 refine Qt.done ?_
 refine wp_seq ?_
 refine Qt.y5g 3 ?_
 refine z0m rfl _ rfl (b4) (((p).z) * ((q).z)) rfl HV4_d.out ?_
 refine z0m rfl _ rfl (b4) (((p).z) * ((q).z)) rfl HV4_d.out ?_
 refine Qt.z0e rfl 229 #[.agg (fw (((p).z) * ((q).z))), .agg (fw (((p).z) * ((q).z)))] _ (fun _ => by kernel_rfl) (fun w' _ => y3h (((p).z) * ((q).z)) (((p).z) * ((q).z)) w') ?_
 simp only [zD]
 skip
 refine Qt.z1a ?_
 intro wa5 hb2
 have HX : Hid (Below (w4).heap.size (w4) wa5) := by first | exact hb2 | exact hb2.mono (by simp)
 have HO : Hid (WAt wa5 (b4) (((p).z) * ((q).z))) := HV4_d.out.below HX.out HV4_d.out.lt
 refine z2h rfl _ _ rfl (b4) ((((p).z) * ((q).z)) + (((p).z) * ((q).z))) (((p).z) * ((q).z)) rfl rfl HO.out ?_
 obtain ⟨w5, hw2⟩ : ∃ w2, w2 = wa5.setRow (b4) (fw ((((p).z) * ((q).z)) + (((p).z) * ((q).z)))) := ⟨_, rfl⟩
 rw [← hw2]
 have HV5_d : Hid (WAt w5 (b4) ((((p).z) * ((q).z)) + (((p).z) * ((q).z)))) := by rw [hw2]; exact HO.out.setRow _
 have HV5_p : Hid (PAt w5 (w.heap.size) (p)) := by rw [hw2]; exact (HV4_p.out.below HX.out HV4_p.out.lt).other HN_p_d.out _
 have HV5_q : Hid (PAt w5 (w.heap.size + 1) (q)) := by rw [hw2]; exact (HV4_q.out.below HX.out HV4_q.out.lt).other HN_q_d.out _
 have HV5_a : Hid (WAt w5 (b1) ((((p).y) - ((p).x)) * (((q).y) - ((q).x)))) := by rw [hw2]; exact (HV4_a.out.below HX.out HV4_a.out.lt).other HN_a_d.out _
 have HV5_b : Hid (WAt w5 (b2) ((((p).y) + ((p).x)) * (((q).y) + ((q).x)))) := by rw [hw2]; exact (HV4_b.out.below HX.out HV4_b.out.lt).other HN_b_d.out _
 have HV5_c : Hid (WAt w5 (b3) ((((p).t) * (Ed.dD + Ed.dD)) * ((q).t))) := by rw [hw2]; exact (HV4_c.out.below HX.out HV4_c.out.lt).other HN_c_d.out _
 have HV5_res : Hid (PAt w5 (w.heap.size + 1 + 1) (e0)) := by rw [hw2]; exact (HV4_res.out.below HX.out HV4_res.out.lt).other HN_res_d.out _
 have HB_5 : Hid (Below w.heap.size w w5) := by rw [hw2]; exact (HB_4.out.trans (HX.out.mono HB_4.out.size)).trans ((z0a _ _ _).mono HG_d.out)
 clear hb2 HX HO hw2
 simp only [Act.put]
 refine Qt.done ?_
 refine wp_seq ?_
 refine Qt.z0q 13 (by kernel_rfl) (by kernel_rfl) ?_
 refine z0m rfl _ rfl (b2) ((((p).y) + ((p).x)) * (((q).y) + ((q).x))) rfl HV5_b.out ?_
 refine z0m rfl _ rfl (b1) ((((p).y) - ((p).x)) * (((q).y) - ((q).x))) rfl HV5_a.out ?_
 refine Qt.z0e rfl 226 #[.agg (fw ((((p).y) + ((p).x)) * (((q).y) + ((q).x)))), .agg (fw ((((p).y) - ((p).x)) * (((q).y) - ((q).x))))] _ (fun _ => by kernel_rfl) (fun w' _ => y2m ((((p).y) + ((p).x)) * (((q).y) + ((q).x))) ((((p).y) - ((p).x)) * (((q).y) - ((q).x))) w') ?_
 simp only [zD]
 refine z0m rfl _ rfl (b4) ((((p).z) * ((q).z)) + (((p).z) * ((q).z))) rfl HV5_d.out ?_
 refine z0m rfl _ rfl (b3) ((((p).t) * (Ed.dD + Ed.dD)) * ((q).t)) rfl HV5_c.out ?_
 refine Qt.z0e rfl 226 #[.agg (fw ((((p).z) * ((q).z)) + (((p).z) * ((q).z)))), .agg (fw ((((p).t) * (Ed.dD + Ed.dD)) * ((q).t)))] _ (fun _ => by kernel_rfl) (fun w' _ => y2m ((((p).z) * ((q).z)) + (((p).z) * ((q).z))) ((((p).t) * (Ed.dD + Ed.dD)) * ((q).t)) w') ?_
 simp only [zD]
 refine z0m rfl _ rfl (b4) ((((p).z) * ((q).z)) + (((p).z) * ((q).z))) rfl HV5_d.out ?_
 refine z0m rfl _ rfl (b3) ((((p).t) * (Ed.dD + Ed.dD)) * ((q).t)) rfl HV5_c.out ?_
 refine Qt.z0e rfl 229 #[.agg (fw ((((p).z) * ((q).z)) + (((p).z) * ((q).z)))), .agg (fw ((((p).t) * (Ed.dD + Ed.dD)) * ((q).t)))] _ (fun _ => by kernel_rfl) (fun w' _ => y3h ((((p).z) * ((q).z)) + (((p).z) * ((q).z))) ((((p).t) * (Ed.dD + Ed.dD)) * ((q).t)) w') ?_
 simp only [zD]
 refine z0m rfl _ rfl (b2) ((((p).y) + ((p).x)) * (((q).y) + ((q).x))) rfl HV5_b.out ?_
 refine z0m rfl _ rfl (b1) ((((p).y) - ((p).x)) * (((q).y) - ((q).x))) rfl HV5_a.out ?_
 refine Qt.z0e rfl 229 #[.agg (fw ((((p).y) + ((p).x)) * (((q).y) + ((q).x)))), .agg (fw ((((p).y) - ((p).x)) * (((q).y) - ((q).x))))] _ (fun _ => by kernel_rfl) (fun w' _ => y3h ((((p).y) + ((p).x)) * (((q).y) + ((q).x))) ((((p).y) - ((p).x)) * (((q).y) - ((q).x))) w') ?_
 simp only [zD]
 refine Qt.z0e rfl 238 #[.agg (fw (((((p).y) + ((p).x)) * (((q).y) + ((q).x))) - ((((p).y) - ((p).x)) * (((q).y) - ((q).x))))), .agg (fw (((((p).z) * ((q).z)) + (((p).z) * ((q).z))) - ((((p).t) * (Ed.dD + Ed.dD)) * ((q).t)))), .agg (fw (((((p).z) * ((q).z)) + (((p).z) * ((q).z))) + ((((p).t) * (Ed.dD + Ed.dD)) * ((q).t)))), .agg (fw (((((p).y) + ((p).x)) * (((q).y) + ((q).x))) + ((((p).y) - ((p).x)) * (((q).y) - ((q).x)))))] (.agg (pw (Ed.quot (((((p).y) + ((p).x)) * (((q).y) + ((q).x))) - ((((p).y) - ((p).x)) * (((q).y) - ((q).x)))) (((((p).z) * ((q).z)) + (((p).z) * ((q).z))) - ((((p).t) * (Ed.dD + Ed.dD)) * ((q).t))) (((((p).z) * ((q).z)) + (((p).z) * ((q).z))) + ((((p).t) * (Ed.dD + Ed.dD)) * ((q).t))) (((((p).y) + ((p).x)) * (((q).y) + ((q).x))) + ((((p).y) - ((p).x)) * (((q).y) - ((q).x))))))) (fun _ => by kernel_rfl) (fun w' _ => q6i (((((p).y) + ((p).x)) * (((q).y) + ((q).x))) - ((((p).y) - ((p).x)) * (((q).y) - ((q).x)))) (((((p).z) * ((q).z)) + (((p).z) * ((q).z))) - ((((p).t) * (Ed.dD + Ed.dD)) * ((q).t))) (((((p).z) * ((q).z)) + (((p).z) * ((q).z))) + ((((p).t) * (Ed.dD + Ed.dD)) * ((q).t))) (((((p).y) + ((p).x)) * (((q).y) + ((q).x))) + ((((p).y) - ((p).x)) * (((q).y) - ((q).x)))) w') ?_
 simp only [zD]
 skip
 refine Qt.z1a ?_
 intro wz hb2
 have HX : Hid (Below (w5).heap.size (w5) wz) := by first | exact hb2 | exact hb2.mono (by simp)
 have HO : Hid (PAt wz (w.heap.size + 1 + 1) e0) := HV5_res.out.below HX.out HV5_res.out.lt
 refine z2z rfl _ _ rfl (w.heap.size + 1 + 1) (Ed.y8m p q) e0 rfl rfl HO.out ?_
 simp only [Act.put]
 refine Qt.done ?_
 go_wp2_with fail
 exact y7m Tryz.results176 rfl (w.heap.size + 1 + 1) (Ed.y8m p q) rfl (HO.out.setRow _) ⟨rfl, z0r HB_5.out HX.out _ (by omega) _⟩
set_option maxHeartbeats 1000000 in
theorem q1i (p : Ed.E) (w : World) :
  Calls Tryz.prog 175 #[.agg (pw p)] w fun e w' => e = .returned (.agg (pw (Ed.z7x p))) ∧ Below w.heap.size w w' := by
 have HV_p : Hid (PAt (V2 w p) (w.heap.size) (p)) := j0q w p
 have HV_res : Hid (PAt (V2 w p) (w.heap.size + 1) e0) := k8f w p
 have HB_ : Hid (Below w.heap.size w (V2 w p)) := j0r w p
 go_enter Tryz.func175, Tryz.ntmps175
 go_wp2_with (refine Qt.y5f 3 _ rfl 161 rfl z0l (by kernel_rfl) rfl ?_)
 rename_i Kq hKq
 refine Qt.z0b rfl (.pointer (some ⟨w.heap.size, 0, none⟩)) (fun _ _ => by kernel_rfl) ?_
 refine z4a rfl _ rfl (w.heap.size) 0 ((p).x) rfl HV_p.out.lt HV_p.out.x ?_
 simp only [zD]
 refine Qt.z0e rfl 224 #[.agg (fw ((p).x))] _ (fun _ => by kernel_rfl) (fun w' _ => z3g ((p).x) w') ?_
 simp only [zD]
 skip
 refine Qt.z1a ?_
 intro b1 wa1 hw1 hle hb
 have hw1 : Below (V2 w p).heap.size (V2 w p) wa1 := by first | exact hw1 | exact hw1.mono (by simp)
 have hle : (V2 w p).heap.size ≤ b1 := by first | exact hle | exact Nat.le_trans (by simp) hle
 refine z2v rfl rfl b1 (((p).x) * ((p).x)) rfl rfl hw1 hle hb ?_
 intro w1 hW hb2
 have HX : Hid (Below (V2 w p).heap.size (V2 w p) w1) := hb2
 have HV1_a : Hid (WAt w1 b1 (((p).x) * ((p).x))) := hW
 have HN_p_a : Hid (w.heap.size ≠ b1) := by have h1 := HV_p.out.lt; have h2 := hle; show _ ≠ _; omega
 have HN_res_a : Hid (w.heap.size + 1 ≠ b1) := by have h1 := HV_res.out.lt; have h2 := hle; show _ ≠ _; omega
 have HG_a : Hid (w.heap.size ≤ b1) := Nat.le_trans HB_.out.size hle
 have HV1_p : Hid (PAt w1 (w.heap.size) (p)) := HV_p.out.below HX.out HV_p.out.lt
 have HV1_res : Hid (PAt w1 (w.heap.size + 1) e0) := HV_res.out.below HX.out HV_res.out.lt
 have HB_1 : Hid (Below w.heap.size w w1) := HB_.out.trans (HX.out.mono HB_.out.size)
 clear hW hb2 hb hle hw1 HX
 simp only [zD]
 refine Qt.done ?_
 refine hKq _ _ ?_
 refine wp_seq ?_
 refine Qt.y2c 3 _ rfl 161 rfl z0l (by kernel_rfl) rfl ?_
 refine Qt.z0b rfl (.pointer (some ⟨w.heap.size, 4, none⟩)) (fun _ _ => by kernel_rfl) ?_
 refine z4a rfl _ rfl (w.heap.size) 4 ((p).y) rfl HV1_p.out.lt HV1_p.out.y ?_
 simp only [zD]
 refine Qt.z0e rfl 224 #[.agg (fw ((p).y))] _ (fun _ => by kernel_rfl) (fun w' _ => z3g ((p).y) w') ?_
 simp only [zD]
 skip
 refine Qt.z1a ?_
 intro b2 wa2 hw1 hle hb
 have hw1 : Below (w1).heap.size (w1) wa2 := by first | exact hw1 | exact hw1.mono (by simp)
 have hle : (w1).heap.size ≤ b2 := by first | exact hle | exact Nat.le_trans (by simp) hle
 refine z2v rfl rfl b2 (((p).y) * ((p).y)) rfl rfl hw1 hle hb ?_
 intro w2 hW hb2
 have HX : Hid (Below (w1).heap.size (w1) w2) := hb2
 have HV2_b : Hid (WAt w2 b2 (((p).y) * ((p).y))) := hW
 have HN_p_b : Hid (w.heap.size ≠ b2) := by have h1 := HV1_p.out.lt; have h2 := hle; show _ ≠ _; omega
 have HN_a_b : Hid (b1 ≠ b2) := by have h1 := HV1_a.out.lt; have h2 := hle; show _ ≠ _; omega
 have HN_res_b : Hid (w.heap.size + 1 ≠ b2) := by have h1 := HV1_res.out.lt; have h2 := hle; show _ ≠ _; omega
 have HG_b : Hid (w.heap.size ≤ b2) := Nat.le_trans HB_1.out.size hle
 have HV2_p : Hid (PAt w2 (w.heap.size) (p)) := HV1_p.out.below HX.out HV1_p.out.lt
 have HV2_a : Hid (WAt w2 (b1) (((p).x) * ((p).x))) := HV1_a.out.below HX.out HV1_a.out.lt
 have HV2_res : Hid (PAt w2 (w.heap.size + 1) e0) := HV1_res.out.below HX.out HV1_res.out.lt
 have HB_2 : Hid (Below w.heap.size w w2) := HB_1.out.trans (HX.out.mono HB_1.out.size)
 clear hW hb2 hb hle hw1 HX
 simp only [zD]
 refine Qt.done ?_
 refine wp_seq ?_
 refine Qt.y2c 3 _ rfl 161 rfl z0l (by kernel_rfl) rfl ?_
 refine Qt.z0b rfl (.pointer (some ⟨w.heap.size, 8, none⟩)) (fun _ _ => by kernel_rfl) ?_
 refine z4a rfl _ rfl (w.heap.size) 8 ((p).z) rfl HV2_p.out.lt HV2_p.out.z ?_
 simp only [zD]
 refine Qt.z0e rfl 224 #[.agg (fw ((p).z))] _ (fun _ => by kernel_rfl) (fun w' _ => z3g ((p).z) w') ?_
 simp only [zD]
 skip
 refine Qt.z1a ?_
 intro b3 wa3 hw1 hle hb
 have hw1 : Below (w2).heap.size (w2) wa3 := by first | exact hw1 | exact hw1.mono (by simp)
 have hle : (w2).heap.size ≤ b3 := by first | exact hle | exact Nat.le_trans (by simp) hle
 refine z2v rfl rfl b3 (((p).z) * ((p).z)) rfl rfl hw1 hle hb ?_
 intro w3 hW hb2
 have HX : Hid (Below (w2).heap.size (w2) w3) := hb2
 have HV3_c : Hid (WAt w3 b3 (((p).z) * ((p).z))) := hW
 have HN_p_c : Hid (w.heap.size ≠ b3) := by have h1 := HV2_p.out.lt; have h2 := hle; show _ ≠ _; omega
 have HN_a_c : Hid (b1 ≠ b3) := by have h1 := HV2_a.out.lt; have h2 := hle; show _ ≠ _; omega
 have HN_b_c : Hid (b2 ≠ b3) := by have h1 := HV2_b.out.lt; have h2 := hle; show _ ≠ _; omega
 have HN_res_c : Hid (w.heap.size + 1 ≠ b3) := by have h1 := HV2_res.out.lt; have h2 := hle; show _ ≠ _; omega
 have HG_c : Hid (w.heap.size ≤ b3) := Nat.le_trans HB_2.out.size hle
 have HV3_p : Hid (PAt w3 (w.heap.size) (p)) := HV2_p.out.below HX.out HV2_p.out.lt
 have HV3_a : Hid (WAt w3 (b1) (((p).x) * ((p).x))) := HV2_a.out.below HX.out HV2_a.out.lt
 have HV3_b : Hid (WAt w3 (b2) (((p).y) * ((p).y))) := HV2_b.out.below HX.out HV2_b.out.lt
 have HV3_res : Hid (PAt w3 (w.heap.size + 1) e0) := HV2_res.out.below HX.out HV2_res.out.lt
 have HB_3 : Hid (Below w.heap.size w w3) := HB_2.out.trans (HX.out.mono HB_2.out.size)
 clear hW hb2 hb hle hw1 HX
 simp only [zD]
 refine Qt.done ?_
 refine wp_seq ?_
 refine Qt.y5g 3 ?_
 refine z0m rfl _ rfl (b3) (((p).z) * ((p).z)) rfl HV3_c.out ?_
 refine z0m rfl _ rfl (b3) (((p).z) * ((p).z)) rfl HV3_c.out ?_
 refine Qt.z0e rfl 229 #[.agg (fw (((p).z) * ((p).z))), .agg (fw (((p).z) * ((p).z)))] _ (fun _ => by kernel_rfl) (fun w' _ => y3h (((p).z) * ((p).z)) (((p).z) * ((p).z)) w') ?_
 simp only [zD]
 skip
 refine Qt.z1a ?_
 intro wa4 hb2
 have HX : Hid (Below (w3).heap.size (w3) wa4) := by first | exact hb2 | exact hb2.mono (by simp)
 have HO : Hid (WAt wa4 (b3) (((p).z) * ((p).z))) := HV3_c.out.below HX.out HV3_c.out.lt
 refine z2h rfl _ _ rfl (b3) ((((p).z) * ((p).z)) + (((p).z) * ((p).z))) (((p).z) * ((p).z)) rfl rfl HO.out ?_
 obtain ⟨w4, hw2⟩ : ∃ w2, w2 = wa4.setRow (b3) (fw ((((p).z) * ((p).z)) + (((p).z) * ((p).z)))) := ⟨_, rfl⟩
 rw [← hw2]
 have HV4_c : Hid (WAt w4 (b3) ((((p).z) * ((p).z)) + (((p).z) * ((p).z)))) := by rw [hw2]; exact HO.out.setRow _
 have HV4_p : Hid (PAt w4 (w.heap.size) (p)) := by rw [hw2]; exact (HV3_p.out.below HX.out HV3_p.out.lt).other HN_p_c.out _
 have HV4_a : Hid (WAt w4 (b1) (((p).x) * ((p).x))) := by rw [hw2]; exact (HV3_a.out.below HX.out HV3_a.out.lt).other HN_a_c.out _
 have HV4_b : Hid (WAt w4 (b2) (((p).y) * ((p).y))) := by rw [hw2]; exact (HV3_b.out.below HX.out HV3_b.out.lt).other HN_b_c.out _
 have HV4_res : Hid (PAt w4 (w.heap.size + 1) (e0)) := by rw [hw2]; exact (HV3_res.out.below HX.out HV3_res.out.lt).other HN_res_c.out _
 have HB_4 : Hid (Below w.heap.size w w4) := by rw [hw2]; exact (HB_3.out.trans (HX.out.mono HB_3.out.size)).trans ((z0a _ _ _).mono HG_c.out)
 clear hb2 HX HO hw2
 simp only [Act.put]
 refine Qt.done ?_
 refine wp_seq ?_
 refine Qt.y2b 10 (by kernel_rfl) (by kernel_rfl) _ rfl 161 rfl z0l (by kernel_rfl) ?_
 refine Qt.z0b rfl (.pointer (some ⟨w.heap.size, 0, none⟩)) (fun _ _ => by kernel_rfl) ?_
 refine z4a rfl _ rfl (w.heap.size) 0 ((p).x) rfl HV4_p.out.lt HV4_p.out.x ?_
 simp only [zD]
 refine Qt.z0b rfl (.pointer (some ⟨w.heap.size, 4, none⟩)) (fun _ _ => by kernel_rfl) ?_
 refine z4a rfl _ rfl (w.heap.size) 4 ((p).y) rfl HV4_p.out.lt HV4_p.out.y ?_
 simp only [zD]
 refine Qt.z0e rfl 229 #[.agg (fw ((p).x)), .agg (fw ((p).y))] _ (fun _ => by kernel_rfl) (fun w' _ => y3h ((p).x) ((p).y) w') ?_
 simp only [zD]
 refine Qt.z0e rfl 224 #[.agg (fw (((p).x) + ((p).y)))] _ (fun _ => by kernel_rfl) (fun w' _ => z3g (((p).x) + ((p).y)) w') ?_
 simp only [zD]
 refine z0m rfl _ rfl (b1) (((p).x) * ((p).x)) rfl HV4_a.out ?_
 refine Qt.z0e rfl 226 #[.agg (fw ((((p).x) + ((p).y)) * (((p).x) + ((p).y)))), .agg (fw (((p).x) * ((p).x)))] _ (fun _ => by kernel_rfl) (fun w' _ => y2m ((((p).x) + ((p).y)) * (((p).x) + ((p).y))) (((p).x) * ((p).x)) w') ?_
 simp only [zD]
 refine z0m rfl _ rfl (b2) (((p).y) * ((p).y)) rfl HV4_b.out ?_
 refine Qt.z0e rfl 226 #[.agg (fw (((((p).x) + ((p).y)) * (((p).x) + ((p).y))) - (((p).x) * ((p).x)))), .agg (fw (((p).y) * ((p).y)))] _ (fun _ => by kernel_rfl) (fun w' _ => y2m (((((p).x) + ((p).y)) * (((p).x) + ((p).y))) - (((p).x) * ((p).x))) (((p).y) * ((p).y)) w') ?_
 simp only [zD]
 skip
 refine Qt.z1a ?_
 intro b5 wa5 hw1 hle hb
 have hw1 : Below (w4).heap.size (w4) wa5 := by first | exact hw1 | exact hw1.mono (by simp)
 have hle : (w4).heap.size ≤ b5 := by first | exact hle | exact Nat.le_trans (by simp) hle
 refine z2v rfl rfl b5 ((((((p).x) + ((p).y)) * (((p).x) + ((p).y))) - (((p).x) * ((p).x))) - (((p).y) * ((p).y))) rfl rfl hw1 hle hb ?_
 intro w5 hW hb2
 have HX : Hid (Below (w4).heap.size (w4) w5) := hb2
 have HV5_e : Hid (WAt w5 b5 ((((((p).x) + ((p).y)) * (((p).x) + ((p).y))) - (((p).x) * ((p).x))) - (((p).y) * ((p).y)))) := hW
 have HN_p_e : Hid (w.heap.size ≠ b5) := by have h1 := HV4_p.out.lt; have h2 := hle; show _ ≠ _; omega
 have HN_a_e : Hid (b1 ≠ b5) := by have h1 := HV4_a.out.lt; have h2 := hle; show _ ≠ _; omega
 have HN_b_e : Hid (b2 ≠ b5) := by have h1 := HV4_b.out.lt; have h2 := hle; show _ ≠ _; omega
 have HN_c_e : Hid (b3 ≠ b5) := by have h1 := HV4_c.out.lt; have h2 := hle; show _ ≠ _; omega
 have HN_res_e : Hid (w.heap.size + 1 ≠ b5) := by have h1 := HV4_res.out.lt; have h2 := hle; show _ ≠ _; omega
 have HG_e : Hid (w.heap.size ≤ b5) := Nat.le_trans HB_4.out.size hle
 have HV5_p : Hid (PAt w5 (w.heap.size) (p)) := HV4_p.out.below HX.out HV4_p.out.lt
 have HV5_a : Hid (WAt w5 (b1) (((p).x) * ((p).x))) := HV4_a.out.below HX.out HV4_a.out.lt
 have HV5_b : Hid (WAt w5 (b2) (((p).y) * ((p).y))) := HV4_b.out.below HX.out HV4_b.out.lt
 have HV5_c : Hid (WAt w5 (b3) ((((p).z) * ((p).z)) + (((p).z) * ((p).z)))) := HV4_c.out.below HX.out HV4_c.out.lt
 have HV5_res : Hid (PAt w5 (w.heap.size + 1) e0) := HV4_res.out.below HX.out HV4_res.out.lt
 have HB_5 : Hid (Below w.heap.size w w5) := HB_4.out.trans (HX.out.mono HB_4.out.size)
 clear hW hb2 hb hle hw1 HX
 simp only [zD]
 refine Qt.done ?_
 refine wp_seq ?_
 refine Qt.y2c 3 _ rfl 161 rfl z0l (by kernel_rfl) rfl ?_
 refine z0m rfl _ rfl (b2) (((p).y) * ((p).y)) rfl HV5_b.out ?_
 refine z0m rfl _ rfl (b1) (((p).x) * ((p).x)) rfl HV5_a.out ?_
 refine Qt.z0e rfl 226 #[.agg (fw (((p).y) * ((p).y))), .agg (fw (((p).x) * ((p).x)))] _ (fun _ => by kernel_rfl) (fun w' _ => y2m (((p).y) * ((p).y)) (((p).x) * ((p).x)) w') ?_
 simp only [zD]
 skip
 refine Qt.z1a ?_
 intro b6 wa6 hw1 hle hb
 have hw1 : Below (w5).heap.size (w5) wa6 := by first | exact hw1 | exact hw1.mono (by simp)
 have hle : (w5).heap.size ≤ b6 := by first | exact hle | exact Nat.le_trans (by simp) hle
 refine z2v rfl rfl b6 ((((p).y) * ((p).y)) - (((p).x) * ((p).x))) rfl rfl hw1 hle hb ?_
 intro w6 hW hb2
 have HX : Hid (Below (w5).heap.size (w5) w6) := hb2
 have HV6_g : Hid (WAt w6 b6 ((((p).y) * ((p).y)) - (((p).x) * ((p).x)))) := hW
 have HN_p_g : Hid (w.heap.size ≠ b6) := by have h1 := HV5_p.out.lt; have h2 := hle; show _ ≠ _; omega
 have HN_a_g : Hid (b1 ≠ b6) := by have h1 := HV5_a.out.lt; have h2 := hle; show _ ≠ _; omega
 have HN_b_g : Hid (b2 ≠ b6) := by have h1 := HV5_b.out.lt; have h2 := hle; show _ ≠ _; omega
 have HN_c_g : Hid (b3 ≠ b6) := by have h1 := HV5_c.out.lt; have h2 := hle; show _ ≠ _; omega
 have HN_e_g : Hid (b5 ≠ b6) := by have h1 := HV5_e.out.lt; have h2 := hle; show _ ≠ _; omega
 have HN_res_g : Hid (w.heap.size + 1 ≠ b6) := by have h1 := HV5_res.out.lt; have h2 := hle; show _ ≠ _; omega
 have HG_g : Hid (w.heap.size ≤ b6) := Nat.le_trans HB_5.out.size hle
 have HV6_p : Hid (PAt w6 (w.heap.size) (p)) := HV5_p.out.below HX.out HV5_p.out.lt
 have HV6_a : Hid (WAt w6 (b1) (((p).x) * ((p).x))) := HV5_a.out.below HX.out HV5_a.out.lt
 have HV6_b : Hid (WAt w6 (b2) (((p).y) * ((p).y))) := HV5_b.out.below HX.out HV5_b.out.lt
 have HV6_c : Hid (WAt w6 (b3) ((((p).z) * ((p).z)) + (((p).z) * ((p).z)))) := HV5_c.out.below HX.out HV5_c.out.lt
 have HV6_e : Hid (WAt w6 (b5) ((((((p).x) + ((p).y)) * (((p).x) + ((p).y))) - (((p).x) * ((p).x))) - (((p).y) * ((p).y)))) := HV5_e.out.below HX.out HV5_e.out.lt
 have HV6_res : Hid (PAt w6 (w.heap.size + 1) e0) := HV5_res.out.below HX.out HV5_res.out.lt
 have HB_6 : Hid (Below w.heap.size w w6) := HB_5.out.trans (HX.out.mono HB_5.out.size)
 clear hW hb2 hb hle hw1 HX
 simp only [zD]
 refine Qt.done ?_
 refine wp_seq ?_
 refine Qt.z0q 10 (by kernel_rfl) (by kernel_rfl) ?_
 refine z0m rfl _ rfl (b5) ((((((p).x) + ((p).y)) * (((p).x) + ((p).y))) - (((p).x) * ((p).x))) - (((p).y) * ((p).y))) rfl HV6_e.out ?_
 refine z0m rfl _ rfl (b6) ((((p).y) * ((p).y)) - (((p).x) * ((p).x))) rfl HV6_g.out ?_
 refine z0m rfl _ rfl (b3) ((((p).z) * ((p).z)) + (((p).z) * ((p).z))) rfl HV6_c.out ?_
 refine Qt.z0e rfl 226 #[.agg (fw ((((p).y) * ((p).y)) - (((p).x) * ((p).x)))), .agg (fw ((((p).z) * ((p).z)) + (((p).z) * ((p).z))))] _ (fun _ => by kernel_rfl) (fun w' _ => y2m ((((p).y) * ((p).y)) - (((p).x) * ((p).x))) ((((p).z) * ((p).z)) + (((p).z) * ((p).z))) w') ?_
 simp only [zD]
 refine z0m rfl _ rfl (b6) ((((p).y) * ((p).y)) - (((p).x) * ((p).x))) rfl HV6_g.out ?_
 refine z0m rfl _ rfl (b1) (((p).x) * ((p).x)) rfl HV6_a.out ?_
 refine z0m rfl _ rfl (b2) (((p).y) * ((p).y)) rfl HV6_b.out ?_
 refine Qt.z0e rfl 229 #[.agg (fw (((p).x) * ((p).x))), .agg (fw (((p).y) * ((p).y)))] _ (fun _ => by kernel_rfl) (fun w' _ => y3h (((p).x) * ((p).x)) (((p).y) * ((p).y)) w') ?_
 simp only [zD]
 refine Qt.z0e rfl 177 #[.agg (fw ((((p).x) * ((p).x)) + (((p).y) * ((p).y))))] _ (fun _ => by kernel_rfl) (fun w' _ => x4f ((((p).x) * ((p).x)) + (((p).y) * ((p).y))) w') ?_
 simp only [zD]
 refine Qt.z0e rfl 238 #[.agg (fw ((((((p).x) + ((p).y)) * (((p).x) + ((p).y))) - (((p).x) * ((p).x))) - (((p).y) * ((p).y)))), .agg (fw (((((p).y) * ((p).y)) - (((p).x) * ((p).x))) - ((((p).z) * ((p).z)) + (((p).z) * ((p).z))))), .agg (fw ((((p).y) * ((p).y)) - (((p).x) * ((p).x)))), .agg (fw (0 - ((((p).x) * ((p).x)) + (((p).y) * ((p).y)))))] (.agg (pw (Ed.quot ((((((p).x) + ((p).y)) * (((p).x) + ((p).y))) - (((p).x) * ((p).x))) - (((p).y) * ((p).y))) (((((p).y) * ((p).y)) - (((p).x) * ((p).x))) - ((((p).z) * ((p).z)) + (((p).z) * ((p).z)))) ((((p).y) * ((p).y)) - (((p).x) * ((p).x))) (0 - ((((p).x) * ((p).x)) + (((p).y) * ((p).y))))))) (fun _ => by kernel_rfl) (fun w' _ => q6i ((((((p).x) + ((p).y)) * (((p).x) + ((p).y))) - (((p).x) * ((p).x))) - (((p).y) * ((p).y))) (((((p).y) * ((p).y)) - (((p).x) * ((p).x))) - ((((p).z) * ((p).z)) + (((p).z) * ((p).z)))) ((((p).y) * ((p).y)) - (((p).x) * ((p).x))) (0 - ((((p).x) * ((p).x)) + (((p).y) * ((p).y)))) w') ?_
 simp only [zD]
 skip
 refine Qt.z1a ?_
 intro wz hb2
 have HX : Hid (Below (w6).heap.size (w6) wz) := by first | exact hb2 | exact hb2.mono (by simp)
 have HO : Hid (PAt wz (w.heap.size + 1) e0) := HV6_res.out.below HX.out HV6_res.out.lt
 refine z2z rfl _ _ rfl (w.heap.size + 1) (Ed.z7x p) e0 rfl rfl HO.out ?_
 simp only [Act.put]
 refine Qt.done ?_
 go_wp2_with fail
 exact y7m Tryz.results175 rfl (w.heap.size + 1) (Ed.z7x p) rfl (HO.out.setRow _) ⟨rfl, z0r HB_6.out HX.out _ (by omega) _⟩
end Cw
open Go.RowKit
namespace Ed
def bX : F := ⟨15112221349535400772501151409588531511454012693041857206046113283949847762202, by decide⟩
def bY : F := ⟨46316835694926478169428394003475163141307993866256225615783033603165251855960, by decide⟩
def bP : Pt := (bX, bY)
theorem z7b : OnP bP := by unfold OnP On bP; decide
def y8n (p : E) : Nat → E
 | 0 => z7m
 | n + 1 => y8m (y8n p n) p
theorem y0r : Rep z7m zero := z5y 0 1
theorem q1n {e : E} {p : Pt} (hp : OnP p) (he : Rep e p) (n : Nat) : Rep (y8n e n) (z1x p n) := by
 induction n with
 | zero => exact y0r
 | succ n ih => exact y3u (z1i hp n) hp ih he
end Ed
namespace Cw
open Fw
theorem q0r (w : World) : Calls Tryz.prog 156 #[.agg #[.int .u64 0, .int .u64 0, .int .u64 0, .int .u64 0], .agg (fw 1)] w fun e w' => e = .returned (.agg (pw Ed.z7m)) ∧ Below w.heap.size w w' := by
 have h := y3j 0 1 w
 rwa [y0v] at h
noncomputable abbrev Z1 (w : World) : World := w.alloc (.cells z4q 163)
theorem k2v (w : World) : PAt (Z1 w) w.heap.size e0 := .zero (z0d _ _ _ rfl)
theorem k2u (w : World) : Below w.heap.size w (Z1 w) := (Below.refl _ _).alloc (Nat.le_refl _) _
theorem q6u (w : World) : Calls Tryz.prog 174 #[] w fun e w' => e = .returned (.agg (pw Ed.z7m)) ∧ Below w.heap.size w w' := by
 go_enter Tryz.func174, Tryz.ntmps174
 go_wp2_with fail
 refine (q3e _).mono ?_
 rintro e w1 ⟨rfl, hb1⟩
 have HX1 : Hid (Below (Z1 w).heap.size (Z1 w) w1) := hb1
 clear hb1
 go_wp2_with fail
 refine (q0r _).mono ?_
 rintro e w2 ⟨rfl, hb2⟩
 have HX : Hid (Below (Z1 w).heap.size (Z1 w) w2) := HX1.out.trans (hb2.mono HX1.out.size)
 clear hb2
 have HO : Hid (PAt w2 w.heap.size e0) := (k2v w).below HX.out (k2v w).lt
 go_wp2_with (refine z2z rfl _ _ rfl w.heap.size Ed.z7m e0 rfl rfl HO.out ?_)
 exact y7m Tryz.results174 rfl w.heap.size Ed.z7m rfl (HO.out.setRow _) ⟨rfl, z0r (k2u w) HX.out _ (by omega) _⟩
theorem q0s (w : World) : Calls Tryz.prog 156 #[.agg #[.int .u64 14507833142362363162, .int .u64 7578651490590762930, .int .u64 13881468655802702940, .int .u64 2407515759118799870], .agg #[.int .u64 7378697629483820632, .int .u64 7378697629483820646, .int .u64 7378697629483820646, .int .u64 7378697629483820646]] w fun e w' => e = .returned (.agg (pw (Ed.aff Ed.bX Ed.bY))) ∧ Below w.heap.size w w' := by
 have h := y3j Ed.bX Ed.bY w
 rw [y2r Ed.bX 14507833142362363162 7578651490590762930 13881468655802702940 2407515759118799870 (by decide) (by decide) (by decide) (by decide) (by decide), y2r Ed.bY 7378697629483820632 7378697629483820646 7378697629483820646 7378697629483820646 (by decide) (by decide) (by decide) (by decide) (by decide)] at h
 exact h
theorem q5j (w : World) : Calls Tryz.prog 111 #[] w fun e w' => e = .returned (.agg (pw (Ed.aff Ed.bX Ed.bY))) ∧ Below w.heap.size w w' := by
 go_enter Tryz.func111, Tryz.ntmps111
 go_wp2_with fail
 refine (q0s _).mono ?_
 rintro e w2 ⟨rfl, hb2⟩
 have HX : Hid (Below (Z1 w).heap.size (Z1 w) w2) := hb2
 clear hb2
 have HO : Hid (PAt w2 w.heap.size e0) := (k2v w).below HX.out (k2v w).lt
 go_wp2_with (refine z2z rfl _ _ rfl w.heap.size (Ed.aff Ed.bX Ed.bY) e0 rfl rfl HO.out ?_)
 exact y7m Tryz.results111 rfl w.heap.size (Ed.aff Ed.bX Ed.bY) rfl (HO.out.setRow _) ⟨rfl, z0r (k2u w) HX.out _ (by omega) _⟩
noncomputable def tc (f : Nat → Ed.E) (j : Nat) : Value := ((pw (f (j / 16)))[j % 16]?).getD undef
theorem q6n : ∃ g : (Nat → Ed.E) → Array Value, ∀ f, g f = Own.z0f 256 (tc f) := ⟨_, fun _ => rfl⟩
noncomputable def tbl : (Nat → Ed.E) → Array Value := Classical.choose q6n
theorem z6o (f : Nat → Ed.E) : tbl f = Own.z0f 256 (tc f) := Classical.choose_spec q6n f
theorem z4r (f : Nat → Ed.E) : (tbl f).size = 256 := by rw [z6o]; exact Own.z0p _ _
def TAt (w : World) (b : Nat) (f : Nat → Ed.E) : Prop := w.heap[b]? = some (.cells (tbl f) 276 (0, 0))
theorem TAt.row {w : World} {b : Nat} {f : Nat → Ed.E} (h : TAt w b f) : w.heap[b]? = some (.cells (Own.z0f 256 (tc f)) 276 (0, 0)) := by rw [← z6o]; exact h
theorem TAt.lt {w : World} {b : Nat} {f : Nat → Ed.E} (h : TAt w b f) : b < w.heap.size := (aL h)
theorem TAt.below {w w' : World} {b : Nat} {f : Nat → Ed.E} (h : TAt w b f) {k : Nat} (hb : Below k w w') (hk : b < k) : TAt w' b f := (hb.block b hk).trans h
theorem k6e (e : Ed.E) (j : Nat) (h : j < 16) : (pw e)[j]? = some (((pw e)[j]?).getD undef) := by
 have : j < (pw e).size := by rw [z1z]; exact h
 simp [this]
theorem k6v (f : Nat → Ed.E) (j : Nat) : (tc f j).oneCell' = true := by
 unfold tc
 have h := k6e (f (j / 16)) (j % 16) (by omega)
 have h1 := Array.all_eq_true_iff_forall_mem.1 (y7e (f (j / 16))) _ (Array.mem_of_getElem? h)
 exact h1
theorem x9r (f : Nat → Ed.E) : (tbl f).all (·.oneCell') = true := by rw [z6o]; exact Own.y0n fun j _ => k6v f j
theorem k6c (j : Nat) (h : j < 16) : ((pw e0)[j]?).getD undef = .int .u64 0 := by
 rw [y4n]
 rcases j with _ | _ | _ | _ | _ | _ | _ | _ | _ | _ | _ | _ | _ | _ | _ | _ | j <;> first | rfl | omega
theorem q4v : Tryz.zeroCells276 = tbl (fun _ => e0) := by
 have h : Tryz.zeroCells276 = Own.z0f 256 (fun _ => .int .u64 0) := by kernel_rfl
 rw [h, z6o]
 exact Own.z0k fun j _ => (k6c (j % 16) (by omega)).symm
theorem TAt.zero {w : World} {b : Nat} (h : w.heap[b]? = some (.cells Tryz.zeroCells276 276 (0, 0))) : TAt w b (fun _ => e0) := by unfold TAt; rw [← q4v]; exact h
theorem TAt.range {w : World} {b : Nat} {f : Nat → Ed.E} (h : TAt w b f) (i : Nat) (hi : i < 16) : w.rangeAt b (16 * i) (pw (f i)).toList := fun j v hv => by
 have hj : j < 16 := by
  have := (lL hv)
  rw [Array.length_toList, z1z] at this
  exact this
 rw [Own.z0o h.row (16 * i + j) (by omega)]
 unfold tc
 rw [show (16 * i + j) / 16 = i by omega, show (16 * i + j) % 16 = j by omega]
 have h2 : (pw (f i))[j]? = some v := by simpa using hv
 rw [h2]; rfl
theorem TAt.there {w : World} {b : Nat} {f : Nat → Ed.E} (h : TAt w b f) (i : Nat) (hi : i < 16) : w.there b (16 * i) 16 := fun j hj =>
 ⟨by rw [Own.z0o h.row (16 * i + j) (by omega)]; rfl, Own.z1o h.row _⟩
theorem y7n {g n : Nat} {t : TypeId} (vs : List Value) : ∀ (o : Nat) (w : World) (f : Nat → Value), w.heap[g]? = some (.cells (Own.z0f n f) t (0, 0)) →
  (w.setCells g o vs).heap[g]? = some (.cells (Own.z0f n (fun j => if o ≤ j ∧ j < o + vs.length then (vs[j - o]?).getD undef else f j)) t (0, 0)) := by
 induction vs with
 | nil =>
  intro o w f h
  rw [show (fun j => if o ≤ j ∧ j < o + ([] : List Value).length then (([] : List Value)[j - o]?).getD undef else f j) = f from funext fun j => if_neg (by simp)]
  exact h
 | cons v vs ih =>
  intro o w f h
  have h1 := ih (o + 1) _ _ (Own.z1p h o v)
  rw [show (w.setCells g o (v :: vs)) = (w.setCell ⟨g, o, none⟩ v).setCells g (o + 1) vs from rfl, h1]
  congr 2
  refine Own.z0k fun j _ => ?_
  by_cases e : j = o
  ·subst e
   rw [if_neg (by omega), if_pos rfl, if_pos (by simp)]
   simp
  ·by_cases hj : o + 1 ≤ j ∧ j < o + 1 + vs.length
   ·rw [if_pos hj, if_pos (by simp; omega), show j - o = (j - (o + 1)) + 1 by omega]
    simp
   ·rw [if_neg hj, if_neg e, if_neg (by simp; omega)]
theorem z4u {B : Nat} {b : Nat} (hb : B ≤ b) (vs : List Value) : ∀ (o : Nat) (a w : World), Below B a w → Below B a (w.setCells b o vs) := by
 induction vs with
 | nil => intro o a w h; exact h
 | cons v vs ih => intro o a w h; exact ih (o + 1) a _ (h.setCell hb v)
def upd (f : Nat → Ed.E) (i : Nat) (e : Ed.E) : Nat → Ed.E := fun k => if k = i then e else f k
theorem TAt.set {w : World} {b : Nat} {f : Nat → Ed.E} (h : TAt w b f) (i : Nat) (_hi : i < 16) (e : Ed.E) : TAt (w.setCells b (16 * i) (pw e).toList) b (upd f i e) := by
 have h' := h.row
 have h2 := y7n (pw e).toList (16 * i) w (tc f) h'
 unfold TAt
 rw [z6o, h2]
 refine congrArg (fun c => some (Obj.cells c 276 (0, 0))) ?_
 refine Own.z0k fun j hj => ?_
 rw [Array.length_toList, z1z]
 unfold tc upd
 by_cases hc : 16 * i ≤ j ∧ j < 16 * i + 16
 ·rw [if_pos hc, if_pos (by omega), show j - 16 * i = j % 16 by omega]
  simp
 ·rw [if_neg hc, if_neg (by omega)]
theorem PAt.setCells {w : World} {b c o : Nat} {e : Ed.E} (h : PAt w b e) (hne : b ≠ c) (vs : List Value) : PAt (w.setCells c o vs) b e := by
 induction vs generalizing w o with
 | nil => exact h
 | cons v vs ih =>
  refine ih (w := w.setCell ⟨c, o, none⟩ v) (o := o + 1) ?_
  unfold PAt at *
  rw [Below.heap_setCell _ _ _ _ (by exact hne)]
  exact h
theorem TAt.setCells {w : World} {b c o : Nat} {f : Nat → Ed.E} (h : TAt w b f) (hne : b ≠ c) (vs : List Value) : TAt (w.setCells c o vs) b f := by
 induction vs generalizing w o with
 | nil => exact h
 | cons v vs ih =>
  refine ih (w := w.setCell ⟨c, o, none⟩ v) (o := o + 1) ?_
  unfold TAt at *
  rw [Below.heap_setCell _ _ _ _ (by exact hne)]
  exact h
end Cw
open Go.RowKit
namespace Qt
theorem y1m {P : Program} (w : World) (t e : TypeId) (len sz : Nat) (i : TypeInfo) (hu : P.underlying t = some (.array len e)) (hi : P.info? e = some i) (hs : P.cellsOf e = sz) (b off n : Nat) (k : IntKind) (hn : n < len) :
  (Instr.indexAt t (.pointer (some ⟨b, off, none⟩)) (.int k (n : Int))).run P w = .ok (.pointer (some ⟨b, off + n * sz, none⟩)) w := by
 have h1 : (underlying t).run P w = .ok (.array len e) w := run_underlying hu w
 have h2 : (sizeOf e).run P w = .ok sz w := by rw [← hs]; exact run_sizeOf w hi
 have h3 : (0 : Int) ≤ (n : Int) ∧ (n : Int) < (len : Int) := ⟨by omega, by omega⟩
 simp [Instr.indexAt, asIntOf, Instr.sureAddr, h1, h2, h3, hn, Addr.add_mid]
theorem z9y {P : Program} {W : World} {K : Act → Prop} {l : List Oper} {o : Oper} {a : Act} (hg : o.guard = none) (t : TypeId) (x ix : Operand) (ho : o.op = .indexAddr t x ix) (e : TypeId) (len sz : Nat) (hu : P.underlying t = some (.array len e)) (hs : P.cellsOf e = sz) (hi0 : (P.info? e).isSome = true) (b off n : Nat) (k : IntKind)
  (hx : a.eval x = .pointer (some ⟨b, off, none⟩)) (hi : a.eval ix = .int k (n : Int)) (hn : n < len) (h : Lex P W K l (a.put o.dst (.pointer (some ⟨b, off + n * sz, none⟩)))) : Lex P W K (o :: l) a := by
 refine z0b hg _ (fun w' _ => ?_) h
 obtain ⟨i, hi1⟩ := Option.isSome_iff_exists.1 hi0
 unfold execOp
 simp only [ho, hx, hi, Sem.run_bind, Sem.run_pure, Result.andThen_ok, y1m w' t e len sz i hu hi1 hs b off n k hn]
end Qt
namespace Cw
open Fw
def ft (p : Ed.E) (k : Nat) : Nat → Ed.E := fun j => if j ≤ k then Ed.y8n p j else e0
theorem q8j (p : Ed.E) : upd (fun _ => e0) 0 Ed.z7m = ft p 0 := by
 funext j
 unfold upd ft
 by_cases h : j = 0
 ·subst h; rfl
 ·rw [if_neg h, if_neg (by omega)]
theorem q8i (p : Ed.E) (k : Nat) : upd (ft p k) (k + 1) (Ed.y8m (ft p k k) p) = ft p (k + 1) := by
 funext j
 unfold upd ft
 by_cases h : j = k + 1
 ·subst h; rw [if_pos rfl, if_pos (Nat.le_refl _), if_pos (Nat.le_refl _)]; rfl
 ·rw [if_neg h]
  by_cases h2 : j ≤ k
  ·rw [if_pos h2, if_pos (by omega)]
  ·rw [if_neg h2, if_neg (by omega)]
theorem q4u (p : Ed.E) : tbl (ft p 15) = tbl (Ed.y8n p) := by
 rw [z6o, z6o]
 refine Own.z0k fun j hj => ?_
 unfold tc ft
 rw [if_pos (by omega)]
theorem q6t {W : World} {K : Act → Prop} {l : List Oper} {o : Oper} {a : Act} (hg : o.guard = none) (x : Operand) (ho : o.op = .load 163 x) (b off : Nat) (v : Ed.E) (hx : a.eval x = .pointer (some ⟨b, off, none⟩)) (hb : b < W.heap.size) (hr : W.rangeAt b off (pw v).toList)
  (h : Qt.Lex Tryz.prog W K l (a.put o.dst (.agg (pw v)))) : Qt.Lex Tryz.prog W K (o :: l) a :=
 Qt.k7m hg 163 x ho b off hx (pw v).toList _ hb hr Tryz.underlying163 rfl (by rw [Array.length_toList, z1z]; kernel_rfl) h
theorem x2l {ops : Array Oper} {rest : List Oper} {o : Oper} {a : Act} {w : World} {Q : Exit → Act → World → Prop} (hg : o.guard = none) (x y : Operand) (ho : o.op = .store 163 x y) (b off : Nat) (v : Ed.E) (hx : a.eval x = .pointer (some ⟨b, off, none⟩)) (hy : a.eval y = .agg (pw v)) (hb : w.there b off 16)
  (h : wpList Tryz.prog ops Q rest (a.put o.dst undef) (w.setCells b off (pw v).toList)) : wpList Tryz.prog ops Q (o :: rest) a w :=
 wpList_store_mid hg 163 x y ho b off (pw v) hx hy (by rw [z1z]; exact hb) (by rw [z1z]; kernel_rfl) (y7e v) h
theorem k5i {ops : Array Oper} {rest : List Oper} {o : Oper} {a : Act} {w : World} {Q : Exit → Act → World → Prop} (hg : o.guard = none) (x : Operand) (ho : o.op = .load 276 x) (b : Nat) (v : Nat → Ed.E) (hx : a.eval x = .pointer (some ⟨b, 0, none⟩)) (hb : TAt w b v)
  (h : wpList Tryz.prog ops Q rest (a.put o.dst (.agg (tbl v))) w) : wpList Tryz.prog ops Q (o :: rest) a w :=
 wpList_load_row hg 276 x ho b hx 276 (tbl v) (0, 0) _ hb Tryz.underlying276 rfl (by rw [z4r]; kernel_rfl) h
theorem k1q {ops : Array Oper} {rest : List Oper} {o : Oper} {a : Act} {w : World} {Q : Exit → Act → World → Prop} (hg : o.guard = none) (x y : Operand) (ho : o.op = .store 276 x y) (b : Nat) (v old : Nat → Ed.E) (hx : a.eval x = .pointer (some ⟨b, 0, none⟩)) (hy : a.eval y = .agg (tbl v)) (hb : TAt w b old)
  (h : wpList Tryz.prog ops Q rest (a.put o.dst undef) (w.setRow b (tbl v))) : wpList Tryz.prog ops Q (o :: rest) a w :=
 wpList_store_row hg 276 x y ho b (tbl v) hx hy 276 (tbl old) hb (by rw [z4r]; kernel_rfl) ((z4r _).trans (z4r _).symm) (x9r v) h
theorem TAt.setRow {w : World} {b : Nat} {e : Nat → Ed.E} (h : TAt w b e) (f : Nat → Ed.E) : TAt (w.setRow b (tbl f)) b f := setRow_heap _ _ _ _ _ _ h
theorem k9z {fn : Func} {p : Tmp} (h : fn.results = #[.cell p 276]) {post : Ending → World → Prop} {a : Act} {w : World} (hd : a.defers = []) (g : Nat) (v : Nat → Ed.E) (hp : a.tmps.getD p undef = .pointer (some ⟨g, 0, none⟩)) (hg : TAt w g v) (hpost : post (.returned (.agg (tbl v))) w) :
  bodyPost Tryz.prog fn post .ret a w :=
 Own.z1g h hd g 276 (tbl v) (0, 0) _ hp hg Tryz.underlying276 rfl (by rw [z4r]; kernel_rfl) hpost
noncomputable abbrev M3 (w : World) (p : Ed.E) : World := ((w.alloc (.cells (pw p) 163)).alloc (.cells Tryz.zeroCells276 276)).alloc (.cells Tryz.zeroCells276 276)
theorem j1r (w : World) (p : Ed.E) : PAt (M3 w p) w.heap.size p := PAt.below (z0d w _ _ rfl) (((Below.refl (w.heap.size + 1) _).alloc (by simp) _).alloc (by simp) _) (by omega)
theorem j1s (w : World) (p : Ed.E) : TAt (M3 w p) (w.heap.size + 1) (fun _ => e0) := TAt.below (.zero (z0d _ _ _ (by simp))) ((Below.refl (w.heap.size + 2) _).alloc (by simp) _) (by omega)
theorem j1t (w : World) (p : Ed.E) : TAt (M3 w p) (w.heap.size + 1 + 1) (fun _ => e0) := .zero (z0d _ _ _ (by simp))
theorem j1q (w : World) (p : Ed.E) : Below w.heap.size w (M3 w p) := (((Below.refl _ _).alloc (Nat.le_refl _) _).alloc (by simp) _).alloc (by simp; omega) _
set_option maxHeartbeats 1000000 in
theorem k5q (p : Ed.E) (w : World) : Calls Tryz.prog 173 #[.agg (pw p)] w fun e w' => e = .returned (.agg (tbl (Ed.y8n p))) ∧ Below w.heap.size w w' := by
 have HP : Hid (PAt (M3 w p) w.heap.size p) := j1r w p
 have HR : Hid (TAt (M3 w p) (w.heap.size + 1) (fun _ => e0)) := j1s w p
 have HT : Hid (TAt (M3 w p) (w.heap.size + 1 + 1) (fun _ => e0)) := j1t w p
 have HB : Hid (Below w.heap.size w (M3 w p)) := j1q w p
 go_enter Tryz.func173, Tryz.ntmps173
 go_wp2_with fail
 refine (q6u _).mono ?_
 rintro e w1 ⟨rfl, hb1⟩
 have HX : Hid (Below (M3 w p).heap.size (M3 w p) w1) := hb1
 clear hb1
 have HT1 : Hid (TAt w1 (w.heap.size + 1 + 1) (fun _ => e0)) := HT.out.below HX.out HT.out.lt
 have HR1 : Hid (TAt w1 (w.heap.size + 1) (fun _ => e0)) := HR.out.below HX.out HR.out.lt
 have HP1 : Hid (PAt w1 w.heap.size p) := HP.out.below HX.out HP.out.lt
 have HB1 : Hid (Below w.heap.size w w1) := HB.out.trans (HX.out.mono HB.out.size)
 go_wp2_with (refine x2l rfl _ _ rfl (w.heap.size + 1 + 1) 0 Ed.z7m rfl rfl (HT1.out.there 0 (by omega)) ?_)
 have HT2 : Hid (TAt (w1.setCells (w.heap.size + 1 + 1) 0 (pw Ed.z7m).toList) (w.heap.size + 1 + 1) (ft p 0)) := by
  show TAt _ _ _
  rw [← q8j]; exact HT1.out.set 0 (by omega) Ed.z7m
 go_loopw [7] (fun i wq => ∃ k : Nat, k ≤ 15 ∧ i = .int .i64 (k : Int) ∧ TAt wq (w.heap.size + 1 + 1) (ft p k) ∧ PAt wq w.heap.size p ∧ TAt wq (w.heap.size + 1) (fun _ => e0) ∧ Below w.heap.size w wq) (fun i _ => 15 - (intOf i).toNat)
 case atStart => exact ⟨0, by omega, rfl, HT2.out, HP1.out.setCells (by omega) _, HR1.out.setCells (by omega) _, z4u (by omega) _ _ _ _ HB1.out⟩
 case round =>
  clear HP HR HT HB HX HT1 HR1 HP1 HB1 HT2
  rename World => wa
  obtain ⟨k, hk, rfl, ht, hp, hr, hb⟩ := hrel
  have HT : Hid (TAt wa (w.heap.size + 1 + 1) (ft p k)) := ht
  have HP : Hid (PAt wa w.heap.size p) := hp
  have HR : Hid (TAt wa (w.heap.size + 1) (fun _ => e0)) := hr
  have HB : Hid (Below w.heap.size w wa) := hb
  clear ht hp hr hb
  by_cases hk8 : k < 15
  ·go_wp2_with fail
   refine Qt.z0q 8 (by kernel_rfl) (by kernel_rfl) ?_
   refine Qt.z0b rfl (.int .i64 (k : Int)) (fun _ _ => by kernel_rfl) ?_
   refine Qt.z0b rfl (.int .i64 ((k + 1 : Nat) : Int)) (fun w' _ => ?_) ?_
   ·go_simp
    rw [IntKind.wrap_i64]
    omega
   refine Qt.z0b rfl (.int .i64 (k : Int)) (fun _ _ => by kernel_rfl) ?_
   simp only [zD]
   refine Qt.z9y rfl 276 _ _ rfl 163 16 16 Tryz.underlying276 (by kernel_rfl) (by kernel_rfl) (w.heap.size + 1 + 1) 0 k .i64 rfl rfl (by omega) ?_
   rw [show 0 + k * 16 = 16 * k by omega]
   refine q6t rfl _ rfl (w.heap.size + 1 + 1) (16 * k) (ft p k k) rfl HT.out.lt (HT.out.range k (by omega)) ?_
   refine k7x rfl _ rfl w.heap.size p rfl HP.out ?_
   refine Qt.z0e rfl 176 #[.agg (pw (ft p k k)), .agg (pw p)] (.agg (pw (Ed.y8m (ft p k k) p))) (fun _ => by kernel_rfl) (fun w' _ => k2x (ft p k k) p w') ?_
   simp only [zD]
   refine Qt.z9y rfl 276 _ _ rfl 163 16 16 Tryz.underlying276 (by kernel_rfl) (by kernel_rfl) (w.heap.size + 1 + 1) 0 (k + 1) .i64 rfl rfl (by omega) ?_
   rw [show 0 + (k + 1) * 16 = 16 * (k + 1) by omega]
   simp only [zD]
   refine Qt.z1a ?_
   intro w2 hb2
   have HX : Hid (Below wa.heap.size wa w2) := hb2
   clear hb2
   have HT2 : Hid (TAt w2 (w.heap.size + 1 + 1) (ft p k)) := HT.out.below HX.out HT.out.lt
   refine x2l rfl _ _ rfl (w.heap.size + 1 + 1) (16 * (k + 1)) (Ed.y8m (ft p k k) p) rfl rfl (HT2.out.there (k + 1) (by omega)) ?_
   have HT3 : Hid (TAt (w2.setCells (w.heap.size + 1 + 1) (16 * (k + 1)) (pw (Ed.y8m (ft p k k) p)).toList) (w.heap.size + 1 + 1) (ft p (k + 1))) := by
    show TAt _ _ _
    rw [← q8i]; exact HT2.out.set (k + 1) (by omega) _
   have HP3 : Hid (PAt (w2.setCells (w.heap.size + 1 + 1) (16 * (k + 1)) (pw (Ed.y8m (ft p k k) p)).toList) w.heap.size p) := (HP.out.below HX.out HP.out.lt).setCells (by omega) _
   have HR3 : Hid (TAt (w2.setCells (w.heap.size + 1 + 1) (16 * (k + 1)) (pw (Ed.y8m (ft p k k) p)).toList) (w.heap.size + 1) (fun _ => e0)) := (HR.out.below HX.out HR.out.lt).setCells (by omega) _
   have HB3 : Hid (Below w.heap.size w (w2.setCells (w.heap.size + 1 + 1) (16 * (k + 1)) (pw (Ed.y8m (ft p k k) p)).toList)) := z4u (by omega) _ _ _ _ (HB.out.trans (HX.out.mono HB.out.size))
   simp only [Act.put]
   go_wp2_with fail
   exact ⟨⟨k + 1, by omega, by go_num, HT3.out, HP3.out, HR3.out, HB3.out⟩, by simp [intOf]; omega⟩
  ·obtain rfl : k = 15 := by omega
   go_wp2_with (first | refine k5i rfl _ rfl (w.heap.size + 1 + 1) (ft p 15) rfl HT.out ?_ | refine k1q rfl _ _ rfl (w.heap.size + 1) (ft p 15) _ rfl rfl HR.out ?_)
   refine k9z Tryz.results173 rfl (w.heap.size + 1) (ft p 15) rfl (HR.out.setRow _) ⟨by rw [q4u], HB.out.trans ((z0a _ _ _).mono (by omega))⟩
end Cw
end Go.Proofs.YtbojijefenfbgaaGreatDoor
