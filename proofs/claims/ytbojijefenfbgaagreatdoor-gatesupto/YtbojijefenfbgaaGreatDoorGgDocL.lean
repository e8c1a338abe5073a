/- Walks of the document's Base, Times. Walks of the document's low, parts, order. What Right asks, in points. -/
import Derived.Test.YtbojijefenfbgaaGreatDoorGgShort
import Derived.Test.YtbojijefenfbgaaGreatDoorGgDocK
import Derived.Test.YtbojijefenfbgaaGreatDoorGgWideE
import Derived.Test.YtbojijefenfbgaaGreatDoorGgSignA
import Derived.Test.YtbojijefenfbgaaGreatDoorGgQRel
namespace Go.Proofs.YtbojijefenfbgaaGreatDoor
open Go.RowKit
namespace Dc
open Bt Ed Cw
theorem small_1 (w : World) : Calls Tryz.prog 43 #[.int .i64 1] w fun e w' => e = .returned (.agg (rn 1)) ∧ Below w.heap.size w w' := small_d 1 (by decide) w
theorem small_0 (w : World) : Calls Tryz.prog 43 #[.int .i64 0] w fun e w' => e = .returned (.agg (rn 0)) ∧ Below w.heap.size w w' := small_d 0 (by decide) w
set_option maxRecDepth 100000 in
set_option maxHeartbeats 1000000 in
theorem base_d (w : World) : Calls Tryz.prog 49 #[] w fun e w' => e = .returned (.agg (tp (taff bX bY))) ∧ Below w.heap.size w w' := by
 have HX : Hid (rn bX = #[.int .i64 54554, .int .i64 36645, .int .i64 11616, .int .i64 51542, .int .i64 42930, .int .i64 38181, .int .i64 51040, .int .i64 26924, .int .i64 56412, .int .i64 64982, .int .i64 57905, .int .i64 49316, .int .i64 21502, .int .i64 52590, .int .i64 14035, .int .i64 8553]) := by
  show _ = _
  rw [rn_def, lit_num]
  exact num_congr (of_decide_eq_true (by kernel_rfl))
 have HY : Hid (rn bY = #[.int .i64 26200, .int .i64 26214, .int .i64 26214, .int .i64 26214, .int .i64 26214, .int .i64 26214, .int .i64 26214, .int .i64 26214, .int .i64 26214, .int .i64 26214, .int .i64 26214, .int .i64 26214, .int .i64 26214, .int .i64 26214, .int .i64 26214, .int .i64 26214]) := by
  show _ = _
  rw [rn_def, lit_num]
  exact num_congr (of_decide_eq_true (by kernel_rfl))
 obtain ⟨x, hx⟩ : ∃ x, x = bX := ⟨_, rfl⟩
 rw [← hx] at HX ⊢
 clear hx
 obtain ⟨y, hy⟩ : ∃ y, y = bY := ⟨_, rfl⟩
 rw [← hy] at HY ⊢
 clear hy
 go_enter Tryz.func49, Tryz.ntmps49
 refine wp_seq (wp_region_list ?_)
 refine l_allocT _ rfl rfl ?_
 simp only [Act.put, List.setIfInBounds_toArray, List.set_cons_zero]
 refine Qt.done ?_
 refine wp_seq (wp_region_list ?_)
 refine Own.wpList_build_at rfl 95 _ rfl (rn x) (by rw [HX.out]; kernel_rfl) ?_
 refine l_alloc _ rfl rfl ?_
 simp only [Act.put, zA, zB, zC]
 refine new_r rfl _ _ rfl _ x rfl rfl ?_
 simp only [Act.put]
 refine Qt.done ?_
 refine wp_seq (wp_region_list ?_)
 refine Own.wpList_build_at rfl 95 _ rfl (rn y) (by rw [HY.out]; kernel_rfl) ?_
 refine l_alloc _ rfl rfl ?_
 simp only [Act.put, zA, zB, zC]
 refine new_r rfl _ _ rfl _ y rfl rfl ?_
 simp only [Act.put]
 refine Qt.done ?_
 refine wp_seq ?_
 simp only [World.size_alloc]
 generalize hw0 : World.alloc _ _ = w0
 have h0 := al3 hw0
 have HR0 : Hid (TAt w0 w.heap.size t0) := .zero h0.1
 have HX0 : Hid (RAt w0 (w.heap.size + 1) x) := h0.2.1
 have HY0 : Hid (RAt w0 (w.heap.size + 1 + 1) y) := h0.2.2.1
 have HB0 : Hid _ := h0.2.2.2
 clear hw0 h0
 refine Qt.wp_tail 4 (by kernel_rfl) (by kernel_rfl) ?_
 refine y_r rfl _ rfl (w.heap.size + 1) x rfl HX0.out ?_
 refine y_r rfl _ rfl (w.heap.size + 1 + 1) y rfl HY0.out ?_
 refine Qt.y_call rfl 43 #[.int .i64 1] (.agg (rn 1)) (fun _ => by kernel_rfl) (fun w' _ => small_1 w') ?_
 simp only [Act.put, zA, zB, zC]
 refine y_bt rfl _ rfl (taff x y) (by kernel_rfl) ?_
 simp only [Act.put, zA, zB, zC]
 refine Qt.y_nil ?_
 intro w1 hb1
 have HR1 : Hid (TAt w1 w.heap.size t0) := HR0.out.below hb1 HR0.out.lt
 have HB1 : Hid (Below w.heap.size w w1) := HB0.out.trans (hb1.mono HB0.out.size)
 clear hb1
 refine store_t rfl _ _ rfl w.heap.size (taff x y) t0 rfl rfl HR1.out ?_
 go_wp2_with fail
 exact ret_t Tryz.results49 rfl w.heap.size (taff x y) rfl (HR1.out.setRow _) ⟨rfl, HB1.out.trans ((Fw.below_setRow _ _ _).mono (Nat.le_refl _))⟩
theorem new_r' {ops : Array Oper} {rest : List Oper} {o : Oper} {a : Act} {W : World} {Q : Exit → Act → World → Prop} (hgd : o.guard = none) (x y : Operand) (ho : o.op = .store 95 x y) (v : F) (hy : a.eval y = .agg (rn v)) (w : World) (g : Nat → Int) (hW : W = w.alloc (.cells (num g) 95))
  (hx : a.eval x = .pointer (some ⟨w.heap.size, 0, none⟩))
  (h : wpList Tryz.prog ops Q rest (a.put o.dst undef) (w.alloc (.cells (rn v) 95))) : wpList Tryz.prog ops Q (o :: rest) a W := by
 subst hW
 exact new_r hgd x y ho g v hx hy h
theorem l_bt {ops : Array Oper} {rest : List Oper} {o : Oper} {a : Act} {w : World} {Q : Exit → Act → World → Prop} (hg : o.guard = none) (parts : Array (Nat × Operand)) (ho : o.op = .build 100 parts) (e : T3) (hf : (parts.map fun (i, x) => (i, a.eval x)).toList = [(0, .agg (rn e.x)), (1, .agg (rn e.y)), (2, .agg (rn e.z))])
  (h : wpList Tryz.prog ops Q rest (a.put o.dst (.agg (tp e))) w) : wpList Tryz.prog ops Q (o :: rest) a w :=
 Own.wpList_build_at hg 100 parts ho (tp e) (by rw [hf]; exact built_tp e.x e.y e.z) h
theorem new_t {ops : Array Oper} {rest : List Oper} {o : Oper} {a : Act} {w : World} {Q : Exit → Act → World → Prop} (hgd : o.guard = none) (x y : Operand) (ho : o.op = .store 100 x y) (v : T3)
  (hx : a.eval x = .pointer (some ⟨w.heap.size, 0, none⟩)) (hy : a.eval y = .agg (tp v))
  (h : wpList Tryz.prog ops Q rest (a.put o.dst undef) (w.alloc (.cells (tp v) 100))) : wpList Tryz.prog ops Q (o :: rest) a (w.alloc (.cells tpZ 100)) :=
 Own.wpList_store_new hgd 100 x y ho tpZ (tp v) 100 hx hy (by rw [tp_size]; kernel_rfl) (by rw [tp_size]; rfl) (tp_one v) h
theorem new_t' {ops : Array Oper} {rest : List Oper} {o : Oper} {a : Act} {W : World} {Q : Exit → Act → World → Prop} (hgd : o.guard = none) (x y : Operand) (ho : o.op = .store 100 x y) (v : T3) (hy : a.eval y = .agg (tp v)) (w : World) (hW : W = w.alloc (.cells tpZ 100))
  (hx : a.eval x = .pointer (some ⟨w.heap.size, 0, none⟩))
  (h : wpList Tryz.prog ops Q rest (a.put o.dst undef) (w.alloc (.cells (tp v) 100))) : wpList Tryz.prog ops Q (o :: rest) a W := by
 subst hW
 exact new_t hgd x y ho v hx hy h
noncomputable def tmul (p : T3) (N : Nat) : Nat → T3
 | 0 => taff 0 1
 | d + 1 => if N / 2 ^ (255 - d) % 2 = 1 then tsum (tsum (tmul p N d) (tmul p N d)) p else tsum (tmul p N d) (tmul p N d)
theorem tmul_rep {e : T3} {p : Pt} (hp : OnP p) (he : RepT e p) (N : Nat) (hN : N < 2 ^ 256) (d : Nat) (hd : d ≤ 256) : RepT (tmul e N d) (mulP p (N / 2 ^ (256 - d))) := by
 induction d with
 | zero =>
  rw [Nat.div_eq_of_lt hN]
  exact taff_rep 0 1
 | succ d ih =>
  have h1 := ih (by omega)
  have h2 := tsum_rep (mulP_on hp _) (mulP_on hp _) h1 h1
  rw [← mulP_add hp, ← Nat.two_mul] at h2
  have e1 : 256 - d = 255 - d + 1 := by omega
  have e2 : 256 - (d + 1) = 255 - d := by omega
  have h3 := half_eq N (255 - d)
  rw [← e1] at h3
  rw [e2, h3, tmul]
  by_cases hb : N / 2 ^ (255 - d) % 2 = 1
  ·rw [if_pos hb, hb]
   exact tsum_rep (mulP_on hp _) hp h2 he
  ·rw [if_neg hb, show N / 2 ^ (255 - d) % 2 = 0 by omega]
   exact h2
set_option maxRecDepth 100000 in
set_option maxHeartbeats 1000000 in
theorem times_d (p : T3) (N : Nat) (w : World) : Calls Tryz.prog 48 #[.agg (tp p), .agg (nm (N : Int))] w fun e w' => e = .returned (.agg (tp (tmul p N 256))) ∧ Below w.heap.size w w' := by
 have Hcu : Hid (∀ w, Calls Tryz.prog 50 #[] w fun e w' => e = .returned (.agg (rn dD)) ∧ Below w.heap.size w w') := curve_d
 have Hs0 : Hid (∀ w, Calls Tryz.prog 43 #[.int .i64 0] w fun e w' => e = .returned (.agg (rn 0)) ∧ Below w.heap.size w w') := small_0
 have Hs1 : Hid (∀ w, Calls Tryz.prog 43 #[.int .i64 1] w fun e w' => e = .returned (.agg (rn 1)) ∧ Below w.heap.size w w') := small_1
 have Hsum : Hid (∀ p q w, Calls Tryz.prog 47 #[.agg (tp p), .agg (tp q), .agg (rn dD)] w fun e w' => e = .returned (.agg (tp (tsum p q))) ∧ Below w.heap.size w w') := fun p q w => sum_d p q dD w
 obtain ⟨D, hD⟩ : ∃ D, D = dD := ⟨_, rfl⟩
 rw [← hD] at Hcu Hsum
 clear hD
 go_enter Tryz.func48, Tryz.ntmps48
 go_wp2_with (refine l_allocT _ rfl rfl ?_)
 generalize hw0 : World.alloc _ _ = w0
 obtain ⟨g, hg⟩ : ∃ g, g = w.heap.size := ⟨_, rfl⟩
 have h0 := al3 hw0
 rw [← hg] at h0 ⊢
 have HA0 : Hid (TAt w0 g p) := h0.1
 have HE0 : Hid _ := h0.2.1
 have HR0 : Hid (TAt w0 (g + 1 + 1) t0) := .zero h0.2.2.1
 have HB0 : Hid _ := h0.2.2.2
 have HG : Hid (w.heap.size ≤ g) := Nat.le_of_eq hg.symm
 clear hg hw0 h0
 refine (Hcu.out _).mono ?_
 rintro e w1 ⟨rfl, hb1⟩
 have HA1 : Hid (TAt w1 g p) := HA0.out.below hb1 HA0.out.lt
 have HE1 : Hid (w1.heap[g + 1]? = _) := (hb1.block _ (Array.getElem?_eq_some_iff.1 HE0.out).1).trans HE0.out
 have HR1 : Hid (TAt w1 (g + 1 + 1) t0) := HR0.out.below hb1 HR0.out.lt
 have HB1 : Hid (Below g w w1) := HB0.out.trans (hb1.mono (Nat.le_of_lt HA0.out.lt))
 clear hb1 HA0 HE0 HR0 HB0 Hcu
 obtain ⟨gd, hgd⟩ : ∃ x, x = w1.heap.size := ⟨_, rfl⟩
 have hgl : g + 1 + 1 < gd := by
  rw [hgd]
  exact HR1.out.lt
 go_wp2_with (first | refine l_alloc _ rfl rfl ?_ | refine new_r' rfl _ _ rfl D rfl _ _ rfl rfl ?_)
 generalize hw0 : World.alloc _ _ = w2
 have h0 := al1 hw0
 rw [← hgd] at h0 ⊢
 have HA2 : Hid (TAt w2 g p) := HA1.out.below h0.2 (by omega)
 have HE2 : Hid (w2.heap[g + 1]? = _) := (h0.2.block _ (by omega)).trans HE1.out
 have HR2 : Hid (TAt w2 (g + 1 + 1) t0) := HR1.out.below h0.2 (by omega)
 have HD2 : Hid (RAt w2 gd D) := h0.1
 have HB2 : Hid (Below g w w2) := HB1.out.trans (h0.2.mono (by omega))
 clear hw0 h0 hgd HA1 HE1 HR1 HB1
 refine (Hs0.out _).mono ?_
 rintro e w3 ⟨rfl, hb3⟩
 go_wp2_with fail
 refine (Hs1.out _).mono ?_
 rintro e w4 ⟨rfl, hb4⟩
 go_wp2_with fail
 refine (Hs1.out _).mono ?_
 rintro e w5 ⟨rfl, hb5⟩
 have HX : Below w2.heap.size w2 w5 := (hb3.trans (hb4.mono hb3.size)).trans (hb5.mono (Nat.le_trans hb3.size hb4.size))
 have HA5 : Hid (TAt w5 g p) := HA2.out.below HX HA2.out.lt
 have HE5 : Hid (w5.heap[g + 1]? = _) := (HX.block _ (Array.getElem?_eq_some_iff.1 HE2.out).1).trans HE2.out
 have HR5 : Hid (TAt w5 (g + 1 + 1) t0) := HR2.out.below HX HR2.out.lt
 have HD5 : Hid (RAt w5 gd D) := HD2.out.below HX HD2.out.lt
 have HB5 : Hid (Below g w w5) := HB2.out.trans (HX.mono (Nat.le_of_lt HA2.out.lt))
 clear hb3 hb4 hb5 HX HA2 HE2 HR2 HD2 HB2 Hs0 Hs1
 obtain ⟨go, hgo⟩ : ∃ x, x = w5.heap.size := ⟨_, rfl⟩
 have hgl2 : gd < go := by
  rw [hgo]
  exact HD5.out.lt
 go_wp2_with (first | refine l_bt rfl _ rfl (taff 0 1) (by kernel_rfl) ?_ | refine l_allocT _ rfl rfl ?_ | refine new_t' rfl _ _ rfl (taff 0 1) rfl _ rfl rfl ?_)
 generalize hw0 : World.alloc _ _ = w6
 have h0 := al1 hw0
 rw [← hgo] at h0 ⊢
 have HA6 : Hid (TAt w6 g p) := HA5.out.below h0.2 (by omega)
 have HE6 : Hid (w6.heap[g + 1]? = _) := (h0.2.block _ (by omega)).trans HE5.out
 have HR6 : Hid (TAt w6 (g + 1 + 1) t0) := HR5.out.below h0.2 (by omega)
 have HD6 : Hid (RAt w6 gd D) := HD5.out.below h0.2 (by omega)
 have HO6 : Hid (TAt w6 go (tmul p N 0)) := h0.1
 have HB6 : Hid (Below g w w6) := HB5.out.trans (h0.2.mono (by omega))
 clear hw0 h0 hgo HA5 HE5 HR5 HD5 HB5
 go_loopw [7] (fun i wq => ∃ d : Nat, d ≤ 256 ∧ i = .int .i64 (255 - (d : Int)) ∧ TAt wq g p ∧ wq.heap[g + 1]? = some (.cells (nm (N : Int)) 95 (0, 0)) ∧ TAt wq (g + 1 + 1) t0 ∧ RAt wq gd D ∧ TAt wq go (tmul p N d) ∧ Below g w wq) (fun i _ => (intOf i + 1).toNat)
 case atStart => exact ⟨0, by omega, rfl, HA6.out, HE6.out, HR6.out, HD6.out, HO6.out, HB6.out⟩
 case round =>
  clear HA6 HE6 HR6 HD6 HO6 HB6
  rename World => wa
  obtain ⟨d, hd, rfl, ha, he, hr, hdd, ho, hb⟩ := hrel
  have HA : Hid (TAt wa g p) := ha
  have HE : Hid _ := he
  have HR : Hid (TAt wa (g + 1 + 1) t0) := hr
  have HD : Hid (RAt wa gd D) := hdd
  have HO : Hid (TAt wa go (tmul p N d)) := ho
  have HB : Hid _ := hb
  clear ha he hr hdd ho hb
  by_cases hd0 : d = 256
  ·subst hd0
   obtain ⟨v, hv⟩ : ∃ v, v = tmul p N 256 := ⟨_, rfl⟩
   rw [← hv] at HO
   have Hv : Hid _ := hv
   clear hv
   go_wp2_with (first | refine load_t rfl _ rfl go v rfl HO.out ?_ | refine store_t rfl _ _ rfl (g + 1 + 1) v t0 rfl rfl HR.out ?_)
   exact ret_t Tryz.results48 rfl (g + 1 + 1) v rfl (HR.out.setRow v) ⟨by rw [Hv.out], (HB.out.trans ((Fw.below_setRow _ _ _).mono (by omega))).mono HG.out⟩
  ·obtain ⟨i, hi⟩ : ∃ i, i = 255 - d := ⟨_, rfl⟩
   have ei : (255 : Int) - (d : Int) = (i : Int) := by omega
   rw [ei]
   have Hm : Hid (tmul p N (d + 1) = if N / 2 ^ i % 2 = 1 then tsum (tsum (tmul p N d) (tmul p N d)) p else tsum (tmul p N d) (tmul p N d)) := by rw [hi]; rfl
   obtain ⟨v, hv⟩ : ∃ v, v = tmul p N d := ⟨_, rfl⟩
   rw [← hv] at HO Hm
   have Hi : Hid (i = 255 - d) := hi
   have hlt : i < 256 := by omega
   clear hv hi ei
   go_wp2_with (first | refine load_t rfl _ rfl go v rfl HO.out ?_ | refine load_r rfl _ rfl gd D rfl HD.out ?_)
   refine (Hsum.out _ _ _).mono ?_
   rintro e w3 ⟨rfl, hb3⟩
   have HA3 : Hid (TAt w3 g p) := HA.out.below hb3 HA.out.lt
   have HE3 : Hid (w3.heap[g + 1]? = _) := (hb3.block _ (Array.getElem?_eq_some_iff.1 HE.out).1).trans HE.out
   have HR3 : Hid (TAt w3 (g + 1 + 1) t0) := HR.out.below hb3 HR.out.lt
   have HD3 : Hid (RAt w3 gd D) := HD.out.below hb3 HD.out.lt
   have HO3 : Hid (TAt w3 go v) := HO.out.below hb3 HO.out.lt
   have HB3 : Hid (Below g w w3) := HB.out.trans (hb3.mono (Nat.le_of_lt HA.out.lt))
   clear hb3 HA HE HR HD HO HB
   obtain ⟨u, hu⟩ : ∃ u, u = tsum v v := ⟨_, rfl⟩
   rw [← hu] at Hm ⊢
   clear hu
   have HB4 : Hid (Below go w3 (w3.setRow go (tp u))) := Fw.below_setRow _ _ _
   have HA4 : Hid (TAt (w3.setRow go (tp u)) g p) := HA3.out.below HB4.out (by omega)
   have HE4 : Hid ((w3.setRow go (tp u)).heap[g + 1]? = _) := (HB4.out.block _ (by omega)).trans HE3.out
   have HR4 : Hid (TAt (w3.setRow go (tp u)) (g + 1 + 1) t0) := HR3.out.below HB4.out (by omega)
   have HD4 : Hid (RAt (w3.setRow go (tp u)) gd D) := HD3.out.below HB4.out (by omega)
   have HO4 : Hid (TAt (w3.setRow go (tp u)) go u) := HO3.out.setRow u
   have HC4 : Hid (Below g w (w3.setRow go (tp u))) := HB3.out.trans (HB4.out.mono (by omega))
   obtain ⟨w4, hw4⟩ : ∃ w4, w4 = w3.setRow go (tp u) := ⟨_, rfl⟩
   rw [← hw4] at HA4 HE4 HR4 HD4 HO4 HC4
   have Hw4 : Hid _ := hw4
   clear hw4 HB4 HA3 HE3 HR3 HD3 HB3
   have hc : w4.cell? ⟨g + 1, i / 16, none⟩ = some (.int .i64 (dg (N : Int) (i / 16))) := num_cell HE4.out (i / 16) (by omega)
   have hdb := dg_bd (N : Int) (i / 16)
   have hbit := bit_eq N i
   obtain ⟨c, hcd⟩ : ∃ c, c = dg (N : Int) (i / 16) := ⟨_, rfl⟩
   rw [← hcd] at hc hdb hbit
   clear hcd
   have htm : (c / 2 ^ (i % 16)).tmod 2 = ((N / 2 ^ i % 2 : Nat) : Int) := by
    rw [Int.tmod_eq_emod_of_nonneg (Int.ediv_nonneg hdb.1 (Int.le_of_lt (Int.pow_pos (by decide)))), hbit]
   clear hbit
   by_cases h1 : N / 2 ^ i % 2 = 1
   ·rw [if_pos h1] at Hm
    rw [h1] at htm
    clear h1
    go_wp2_with (first | (refine store_t rfl _ _ rfl go u v rfl rfl HO3.out ?_; rw [← Hw4.out]) | refine load_t rfl _ rfl go u rfl HO4.out ?_ | refine load_t rfl _ rfl g p rfl HA4.out ?_ | refine load_r rfl _ rfl gd D rfl HD4.out ?_)
    refine (Hsum.out _ _ _).mono ?_
    rintro e w5 ⟨rfl, hb5⟩
    rw [← Hm.out]
    have HA5 : Hid (TAt w5 g p) := HA4.out.below hb5 HA4.out.lt
    have HE5 : Hid (w5.heap[g + 1]? = _) := (hb5.block _ (Array.getElem?_eq_some_iff.1 HE4.out).1).trans HE4.out
    have HR5 : Hid (TAt w5 (g + 1 + 1) t0) := HR4.out.below hb5 HR4.out.lt
    have HD5 : Hid (RAt w5 gd D) := HD4.out.below hb5 HD4.out.lt
    have HO5 : Hid (TAt w5 go u) := HO4.out.below hb5 HO4.out.lt
    have HB5 : Hid (Below g w w5) := HC4.out.trans (hb5.mono (Nat.le_of_lt HA4.out.lt))
    clear hb5
    obtain ⟨z, hz⟩ : ∃ z, z = tmul p N (d + 1) := ⟨_, rfl⟩
    rw [← hz]
    have Hz : Hid _ := hz
    clear hz
    go_wp2_with (refine store_t rfl _ _ rfl go z u rfl rfl HO5.out ?_)
    have HB6 : Below go w5 (w5.setRow go (tp z)) := Fw.below_setRow _ _ _
    have hi := Hi.out
    refine ⟨⟨d + 1, by omega, by congr 1; omega, HA5.out.below HB6 (by omega), (HB6.block _ (by omega)).trans HE5.out, HR5.out.below HB6 (by omega), HD5.out.below HB6 (by omega), by rw [← Hz.out]; exact HO5.out.setRow z, HB5.out.trans (HB6.mono (by omega))⟩, ?_⟩
    show ((i : Int) - 1 + 1).toNat < ((i : Int) + 1).toNat
    omega
   ·rw [if_neg h1] at Hm
    have h0 : N / 2 ^ i % 2 = 0 := by omega
    rw [h0] at htm
    clear h1 h0
    go_wp2_with (refine store_t rfl _ _ rfl go u v rfl rfl HO3.out ?_; rw [← Hw4.out])
    have hi := Hi.out
    refine ⟨⟨d + 1, by omega, by congr 1; omega, HA4.out, HE4.out, HR4.out, HD4.out, by rw [Hm.out]; exact HO4.out, HC4.out⟩, ?_⟩
    show ((i : Int) - 1 + 1).toNat < ((i : Int) + 1).toNat
    omega
end Dc
end Go.Proofs.YtbojijefenfbgaaGreatDoor
namespace Go.Proofs.YtbojijefenfbgaaGreatDoor
open Go.RowKit
namespace Dc
open Bt Ed Cw
def bF (N m j : Nat) : Nat := if j < m then N / 256 ^ j % 256 else 0
def byt (f : Nat → Nat) : Array Value := Own.mkRow 32 fun j => .int .u8 (f j : Int)
theorem byt_store {w : World} {b : Nat} {f : Nat → Nat} {t : TypeId} (h : w.heap[b]? = some (.cells (byt f) t (0, 0))) (i : Nat) (v : Nat) : (w.setCell ⟨b, i, none⟩ (.int .u8 (v : Int))).heap[b]? = some (.cells (byt fun j => if j = i then v else f j) t (0, 0)) := by
 refine (Own.row_store h i _).trans (congrArg (fun r => some (Obj.cells r t (0, 0))) (Own.mkRow_congr fun j _ => ?_))
 by_cases e : j = i
 ·show _ = Value.int .u8 ((if j = i then v else f j : Nat) : Int)
  rw [if_pos e, if_pos e]
 ·show _ = Value.int .u8 ((if j = i then v else f j : Nat) : Int)
  rw [if_neg e, if_neg e]
theorem byt_cell {w : World} {b : Nat} {f : Nat → Nat} {t : TypeId} (h : w.heap[b]? = some (.cells (byt f) t (0, 0))) (j : Nat) (hj : j < 32) : w.cell? ⟨b, j, none⟩ = some (.int .u8 (f j : Int)) := Own.row_cell h j hj
theorem byt_frozen {w : World} {b : Nat} {f : Nat → Nat} {t : TypeId} (h : w.heap[b]? = some (.cells (byt f) t (0, 0))) (j : Nat) : w.frozen? ⟨b, j, none⟩ = false := Own.row_frozen h j
theorem bF_step (N m : Nat) : (fun j => if j = m then N / 256 ^ m % 256 else bF N m j) = bF N (m + 1) := by
 funext j
 unfold bF
 by_cases e : j = m
 ·subst e
  rw [if_pos rfl, if_pos (by omega)]
 ·rw [if_neg e]
  by_cases h : j < m
  ·rw [if_pos h, if_pos (by omega)]
  ·rw [if_neg h, if_neg (by omega)]
theorem dg_nat (N i : Nat) : dg (N : Int) i = ((N / 65536 ^ i % 65536 : Nat) : Int) := by
 unfold dg
 rw [Int.natCast_emod, Int.natCast_ediv, Int.natCast_pow]
 rfl
theorem pow_two256 (i : Nat) : (65536 : Nat) ^ i = 256 ^ (2 * i) := by rw [show (65536 : Nat) = 256 ^ 2 from rfl, ← Nat.pow_mul]
theorem dg_lo (N i : Nat) : dg (N : Int) i % 256 = ((N / 256 ^ (2 * i) % 256 : Nat) : Int) := by
 rw [dg_nat, pow_two256]
 omega
theorem dg_hi (N i : Nat) : dg (N : Int) i / 256 = ((N / 256 ^ (2 * i + 1) % 256 : Nat) : Int) := by
 rw [dg_nat, pow_two256, Nat.pow_succ, ← Nat.div_div_eq_div_mul]
 omega
set_option maxRecDepth 100000 in
set_option maxHeartbeats 400000 in
theorem low_d (N : Nat) (w : World) : Calls Tryz.prog 104 #[.agg (nm (N : Int))] w fun e w' => e = .returned (.string ⟨(leB N 32).toArray⟩) ∧ Below w.heap.size w w' := by
 obtain ⟨L, hL⟩ : ∃ L, L = leB N 32 := ⟨_, rfl⟩
 have HL : Hid (L.length = 32) := by
  rw [hL]
  exact leB_length _ _
 have HLg : Hid (∀ j (h : j < L.length), ((L[j]).toNat : Int) = ((N / 256 ^ j % 256 : Nat) : Int)) := by
  intro j h
  subst hL
  rw [leB_get]
  simp
 rw [← hL]
 clear hL
 go_enter Tryz.func104, Tryz.ntmps104
 go_wp2_with (at_make; refine Own.wpList_make_at _ rfl _ _ 145 rfl 5 (.int .u8 0) 1 Tryz.underlying145 info_u8 rfl .i64 .i64 _ _ 32 rfl rfl rfl rfl (by decide) (by decide) ?_)
 generalize hw0 : World.alloc _ _ = w0
 obtain ⟨g, hg⟩ : ∃ g, g = w.heap.size := ⟨_, rfl⟩
 have h0 := al2 hw0
 rw [← hg] at h0 ⊢
 have HA0 : Hid (w0.heap[g]? = some (.cells (nm (N : Int)) 95 (0, 0))) := h0.1
 have HM0 : Hid (w0.heap[g + 1]? = some (.cells (byt (bF N (2 * 0))) 5 (0, 0))) := h0.2.1
 have HB0 : Hid _ := h0.2.2
 have HG : Hid (w.heap.size ≤ g) := Nat.le_of_eq hg.symm
 clear hg hw0 h0
 go_loopw [4] (fun i wq => ∃ k : Nat, k ≤ 16 ∧ i = .int .i64 (k : Int) ∧ wq.heap[g]? = some (.cells (nm (N : Int)) 95 (0, 0)) ∧ wq.heap[g + 1]? = some (.cells (byt (bF N (2 * k))) 5 (0, 0)) ∧ Below g w wq) (fun i _ => 16 - (intOf i).toNat)
 case atStart => exact ⟨0, by omega, rfl, HA0.out, HM0.out, HB0.out⟩
 case round =>
  clear HA0 HM0 HB0
  rename World => wa
  obtain ⟨k, hk, rfl, ha, hm, hb⟩ := hrel
  have HA : Hid _ := ha
  have HM : Hid _ := hm
  have HB : Hid _ := hb
  clear ha hm hb
  by_cases hk16 : k < 16
  ·have hc1 : wa.cell? ⟨g, k, none⟩ = some (.int .i64 (dg (N : Int) k)) := num_cell HA.out k hk16
   have hbd := dg_bd (N : Int) k
   have Hlo : Hid _ := dg_lo N k
   have Hhi : Hid _ := dg_hi N k
   have hc2 := byt_cell HM.out (2 * k) (by omega)
   have hf2 := byt_frozen HM.out (2 * k)
   obtain ⟨d, hd⟩ : ∃ d, d = dg (N : Int) k := ⟨_, rfl⟩
   rw [← hd] at hc1 hbd Hlo Hhi
   have HM1 : Hid ((wa.setCell ⟨g + 1, 2 * k, none⟩ (.int .u8 (d % 256))).heap[g + 1]? = some (.cells (byt (bF N (2 * k + 1))) 5 (0, 0))) := by
    rw [Hlo.out, ← bF_step]
    exact byt_store HM.out _ _
   have HA1 : Hid ((wa.setCell ⟨g + 1, 2 * k, none⟩ (.int .u8 (d % 256))).heap[g]? = _) := (Below.heap_setCell _ _ _ g (by show g ≠ g + 1; omega)).trans HA.out
   have HB1 : Hid (Below g w (wa.setCell ⟨g + 1, 2 * k, none⟩ (.int .u8 (d % 256)))) := below_cell HB.out _ _ (by omega) _
   have hc3 : (wa.setCell ⟨g + 1, 2 * k, none⟩ (.int .u8 (d % 256))).cell? ⟨g, k, none⟩ = some (.int .i64 d) := by
    refine (num_cell HA1.out k hk16).trans ?_
    rw [hd]
   have hc4 := byt_cell HM1.out (2 * k + 1) (by omega)
   have hf4 := byt_frozen HM1.out (2 * k + 1)
   clear hd
   go_wp2_with fail
   refine ⟨⟨k + 1, by omega, by rw [Int.natCast_add]; rfl, ?_, ?_, ?_⟩, ?_⟩
   ·exact (Below.heap_setCell _ _ _ g (by show g ≠ g + 1; omega)).trans HA1.out
   ·rw [Hhi.out, show 2 * (k + 1) = 2 * k + 1 + 1 by omega, ← bF_step]
    exact byt_store HM1.out _ _
   ·exact below_cell HB1.out _ _ (by omega) _
   ·show 16 - ((k : Int) + 1).toNat < 16 - (k : Int).toNat
    omega
  ·obtain rfl : k = 16 := by omega
   have HC : Hid (∀ j (h : j < L.length), wa.cell? ⟨g + 1, 0 + j, none⟩ = some (.int .u8 (L[j].toNat : Int))) := fun j hj => by
    have hj' : j < 32 := by have := HL.out; omega
    rw [Nat.zero_add, byt_cell HM.out j hj', HLg.out j hj, bF, if_pos (by omega)]
   have hll := HL.out
   clear HLg
   go_wp2_with (refine Own.wpList_string_at _ rfl _ 145 9 5 rfl Tryz.underlying145 Tryz.underlying5 Tryz.underlying9 (g + 1) 0 32 L (by rw [hll]; rfl) HC.out ?_)
   go_ret
   exact ⟨rfl, HB.out.mono HG.out⟩
def pF (l : List UInt8) (k j : Nat) : Int := if j < k then dg (le l : Int) j else 0
theorem le_byte (l : List UInt8) (j : Nat) (h : j < l.length) : (l[j]).toNat = le l / 256 ^ j % 256 := by
 have h1 := leB_get l.length (le l) j (by rw [leB_length]; exact h)
 have h2 : (leB (le l) l.length)[j]'(by rw [leB_length]; exact h) = l[j] := by simp only [leB_le]
 rw [← h2, h1]
 simp
theorem le_part (l : List UInt8) (k : Nat) (h : 2 * k + 1 < l.length) : ((l[2 * k]).toNat : Int) + 256 * ((l[2 * k + 1]).toNat : Int) = dg (le l : Int) k := by
 rw [dg_nat, pow_two256, le_byte, le_byte, Nat.pow_succ, ← Nat.div_div_eq_div_mul]
 omega
theorem pF_step (l : List UInt8) (k j : Nat) : (if j = k then dg (le l : Int) k else pF l k j) = pF l (k + 1) j := by
 unfold pF
 by_cases e : j = k
 ·subst e
  rw [if_pos rfl, if_pos (by omega)]
 ·rw [if_neg e]
  by_cases h : j < k
  ·rw [if_pos h, if_pos (by omega)]
  ·rw [if_neg h, if_neg (by omega)]
theorem run_index_str (W : World) (s : ByteArray) (k : Nat) (h : k < s.size) (i : Int) (hi : i = (k : Int)) : Sem.run Tryz.prog (Instr.index 9 (.string s) (.int .i64 i)) W = .ok (.int .u8 ((s[k]).toNat : Int)) W := by
 subst hi
 have h1 : (0 : Int) ≤ (k : Int) ∧ (k : Int) < (s.size : Int) := by omega
 simp [Instr.index, asIntOf, run_underlying Tryz.underlying9, h]
set_option maxRecDepth 100000 in
set_option maxHeartbeats 400000 in
theorem parts_d (s : ByteArray) (hs : s.size = 32) (w : World) : Calls Tryz.prog 38 #[.string s] w fun e w' => e = .returned (.agg (nm (le s.data.toList : Int))) ∧ Below w.heap.size w w' := by
 go_enter Tryz.func38, Tryz.ntmps38
 go_wp2_with (refine l_alloc _ rfl rfl ?_)
 generalize hw0 : World.alloc _ _ = w0
 obtain ⟨g, hg⟩ : ∃ g, g = w.heap.size := ⟨_, rfl⟩
 have h0 := al2 hw0
 rw [← hg] at h0 ⊢
 have HR0 : Hid _ := h0.1
 have HM0 : Hid (w0.heap[g + 1]? = some (.cells (num (pF s.data.toList 0)) 95 (0, 0))) := h0.2.1
 have HB0 : Hid _ := h0.2.2
 have HG : Hid (w.heap.size ≤ g) := Nat.le_of_eq hg.symm
 clear hg hw0 h0
 go_loopw [4] (fun i wq => ∃ k : Nat, k ≤ 16 ∧ i = .int .i64 (k : Int) ∧ wq.heap[g]? = some (.cells (num fun _ => 0) 95 (0, 0)) ∧ wq.heap[g + 1]? = some (.cells (num (pF s.data.toList k)) 95 (0, 0)) ∧ Below g w wq) (fun i _ => 16 - (intOf i).toNat)
 case atStart => exact ⟨0, by omega, rfl, HR0.out, HM0.out, HB0.out⟩
 case round =>
  clear HR0 HM0 HB0
  rename World => wa
  obtain ⟨k, hk, rfl, hr, hm, hb⟩ := hrel
  have HR : Hid _ := hr
  have HM : Hid _ := hm
  have HB : Hid _ := hb
  clear hr hm hb
  by_cases hk16 : k < 16
  ·have hc2 := num_cell HM.out k hk16
   have hf2 := num_frozen HM.out k
   have hk1 : 2 * k + 1 < s.size := by omega
   have Hp := le_part s.data.toList k (by have : s.data.size = s.size := rfl; simp; omega)
   have hb1 := (s[2 * k]).toNat_lt
   have hb2 := (s[2 * k + 1]).toNat_lt
   have hx1 : ∀ W, Sem.run Tryz.prog (Instr.index 9 (.string s) (.int .i64 (2 * (k : Int)))) W = .ok (.int .u8 ((s[2 * k]).toNat : Int)) W := fun W => run_index_str W s (2 * k) (by omega) _ (by omega)
   have hx2 : ∀ W, Sem.run Tryz.prog (Instr.index 9 (.string s) (.int .i64 (2 * (k : Int) + 1))) W = .ok (.int .u8 ((s[2 * k + 1]).toNat : Int)) W := fun W => run_index_str W s (2 * k + 1) (by omega) _ (by omega)
   have Hp : Hid (((s[2 * k]).toNat : Int) + 256 * ((s[2 * k + 1]).toNat : Int) = dg (le s.data.toList : Int) k) := Hp
   generalize (s[2 * k]).toNat = x at *
   generalize (s[2 * k + 1]).toNat = y at *
   go_wp2_with fail
   refine Qt.wp_lit_tail 15 (by kernel_rfl) (by kernel_rfl) ?_
   simp only [List.take_succ_cons, List.take_zero, List.drop_succ_cons, List.drop_zero]
   repeat (first | go_big_quiet_step (fail) | quiet_step (fail))
   refine wpQuiet_nil ?_
   intro _ hw'
   obtain ⟨nq, hw''⟩ := hw'
   subst hw''
   go_wp2_with fail
   refine ⟨⟨k + 1, by omega, by rw [Int.natCast_add]; rfl, ?_, ?_, ?_⟩, ?_⟩
   ·exact (Below.heap_setCell _ _ _ g (by show g ≠ g + 1; omega)).trans HR.out
   ·rw [Hp.out]
    refine (num_store (w := wa.drewN nq) HM.out k _).trans ?_
    rw [num_congr]
    intro j _
    exact pF_step _ k j
   ·exact below_cell (HB.out.trans (Fw.below_drewN _ _ _)) _ _ (by omega) _
   ·show 16 - ((k : Int) + 1).toNat < 16 - (k : Int).toNat
    omega
  ·obtain rfl : k = 16 := by omega
   have HM2 : Hid (wa.heap[g + 1]? = some (.cells (nm (le s.data.toList : Int)) 95 (0, 0))) := HM.out.trans (congrArg (fun r => some (Obj.cells r 95 (0, 0))) (num_congr fun j hj => if_pos hj))
   clear HM
   go_wp2_with (first | refine l_load rfl _ rfl (g + 1) _ rfl HM2.out ?_ | refine l_store rfl _ _ rfl g _ _ rfl rfl HR.out ?_)
   exact Own.ret_row Tryz.results38 rfl g 95 _ (0, 0) _ rfl (setRow_heap _ _ _ _ _ _ HR.out) Tryz.underlying95 rfl (by rw [num_size]; kernel_rfl) ⟨rfl, (HB.out.trans ((Fw.below_setRow _ _ _).mono (by omega))).mono HG.out⟩
theorem parts_l (l : List UInt8) (hl : l.length = 32) (w : World) : Calls Tryz.prog 38 #[.string ⟨l.toArray⟩] w fun e w' => e = .returned (.agg (nm (le l : Int))) ∧ Below w.heap.size w w' := parts_d ⟨l.toArray⟩ hl w
def oI : Int := 7237005577332262213973186563042994240857116359379907606001950938285454250989
set_option maxHeartbeats 400000 in
theorem order_i (w : World) : Calls Tryz.prog 40 #[] w fun e w' => e = .returned (.agg (nm oI)) ∧ Below w.heap.size w w' := by
 have HE : Hid (nm oI = #[.int .i64 54253, .int .i64 23797, .int .i64 25370, .int .i64 22546, .int .i64 40150, .int .i64 41719, .int .i64 63966, .int .i64 5342, .int .i64 0, .int .i64 0, .int .i64 0, .int .i64 0, .int .i64 0, .int .i64 0, .int .i64 0, .int .i64 4096]) := by
  show _ = _
  rw [lit_num]
  exact num_congr (of_decide_eq_true (by kernel_rfl))
 obtain ⟨x, hx⟩ : ∃ x, x = oI := ⟨_, rfl⟩
 rw [← hx] at HE ⊢
 clear hx
 go_enter Tryz.func40, Tryz.ntmps40
 refine wp_seq (wp_region_list ?_)
 refine l_alloc _ rfl rfl ?_
 simp only [Act.put, List.setIfInBounds_toArray, List.set_cons_zero]
 refine Qt.done ?_
 refine wp_seq (wp_region_list ?_)
 refine Own.wpList_build_at rfl 95 _ rfl (nm x) (by rw [HE.out]; kernel_rfl) ?_
 simp only [Act.put, zA, zB, zC]
 refine l_store_new rfl _ _ rfl _ (dg x) rfl rfl ?_
 simp only [Act.put]
 refine Qt.done ?_
 go_wp2_with fail
 exact Own.ret_row Tryz.results40 rfl w.heap.size 95 _ (0, 0) _ rfl (heap_alloc_new _ _) Tryz.underlying95 rfl (by rw [num_size]; kernel_rfl) ⟨rfl, (Below.refl _ _).alloc (Nat.le_refl _) _⟩
end Dc
end Go.Proofs.YtbojijefenfbgaaGreatDoor
namespace Go.Proofs.YtbojijefenfbgaaGreatDoor
open Go.RowKit
namespace Gw
open Fw Bt Ww Sw Cw Ed
theorem lowQ_num (q : Q) : (lowQ q).num = q.num % 57896044618658097711785492504343953926634992332820282019728792003956564819968 := by
 unfold lowQ Q.num
 simp only
 rw [low_val]
 have h0 := q.a0.isLt
 have h1 := q.a1.isLt
 have h2 := q.a2.isLt
 have h3 := q.a3.isLt
 omega
theorem topQ_odd (q : Q) : decide (un (q.a3 >>> (63 : Nat)) = 1) = decide (q.num / 57896044618658097711785492504343953926634992332820282019728792003956564819968 = 1) := by
 have e : (q.a3 >>> (63 : Nat)).toNat = q.num / 57896044618658097711785492504343953926634992332820282019728792003956564819968 := by
  rw [BitVec.toNat_ushiftRight, Nat.shiftRight_eq_div_pow]
  unfold Q.num
  have h0 := q.a0.isLt
  have h1 := q.a1.isLt
  have h2 := q.a2.isLt
  have h3 := q.a3.isLt
  omega
 unfold un
 rw [e]
 by_cases h : q.num / 57896044618658097711785492504343953926634992332820282019728792003956564819968 = 1
 ·rw [h]; rfl
 ·rw [decide_eq_false h]
  exact decide_eq_false (by omega)
theorem enc_mod (p : Pt) : enc p.1 p.2 % 57896044618658097711785492504343953926634992332820282019728792003956564819968 = p.2.val ∧ enc p.1 p.2 / 57896044618658097711785492504343953926634992332820282019728792003956564819968 = if oddF p.1 then 1 else 0 := by
 have h : p.2.val < 57896044618658097711785492504343953926634992332820282019728792003956564819949 := p.2.isLt
 unfold enc
 split <;> omega
theorem encP_le (p : Pt) : le (encP p) = enc p.1 p.2 := le_leB 32 _ (Nat.lt_of_lt_of_le (enc_lt _ _) (by decide))
theorem encP_inj {p q : Pt} (hp : OnP p) (hq : OnP q) (h : encP p = encP q) : p = q := by
 have e : enc p.1 p.2 = enc q.1 q.2 := by rw [← encP_le, ← encP_le, h]
 have h1 := enc_mod p
 have h2 := enc_mod q
 rw [e] at h1
 have hy : p.2 = q.2 := Fin.ext (h1.1.symm.trans h2.1)
 have ho : oddF p.1 = oddF q.1 := by
  have := h1.2.symm.trans h2.2
  cases hp1 : oddF p.1 <;> cases hq1 : oddF q.1 <;> rw [hp1, hq1] at this <;> simp_all
 obtain ⟨x1, y1⟩ := p
 obtain ⟨x2, y2⟩ := q
 have hy' : y1 = y2 := hy
 subst hy'
 rw [on_unique hp hq ho]
theorem kN_lt (R A t : List UInt8) : kN R A t < LL := modL_lt _
noncomputable def decH (f : F × Bool) (odd : Bool) : E × Bool := if f.2 = false then (e0, false) else if (acrossF f.1 odd).2 = false then (e0, false) else (aff (acrossF f.1 odd).1 f.1, true)
theorem decH_true {f : F × Bool} {odd : Bool} (h : (decH f odd).2 = true) : f.2 = true ∧ (acrossF f.1 odd).2 = true ∧ (decH f odd).1 = aff (acrossF f.1 odd).1 f.1 := by
 unfold decH at *
 by_cases h1 : f.2 = false
 ·rw [if_pos h1] at h; cases h
 ·rw [if_neg h1] at h ⊢
  by_cases h2 : (acrossF f.1 odd).2 = false
  ·rw [if_pos h2] at h; cases h
  ·rw [if_neg h2]
   exact ⟨by simpa using h1, by simpa using h2, rfl⟩
theorem decH_false {y : F} {odd : Bool} (h : (decH (y, true) odd).2 = false) : (acrossF y odd).2 = false := by
 unfold decH at h
 rw [if_neg (by simp)] at h
 by_cases h2 : (acrossF y odd).2 = false
 ·exact h2
 ·rw [if_neg h2] at h; cases h
theorem decG_eq (q : Q) : decG q = decH (fromN (lowQ q)) (decide (un (q.a3 >>> (63 : Nat)) = 1)) := rfl
theorem fromN_val {q : Q} (h : (fromN q).2 = true) : (fromN q).1.val = q.num := by
 unfold fromN at h ⊢
 by_cases h2 : q.num < Ed.P
 ·rw [dif_pos h2]
 ·rw [dif_neg h2] at h; cases h
theorem enc_of {x y : F} {N : Nat} (hy : y.val = N % 57896044618658097711785492504343953926634992332820282019728792003956564819968) (ho : oddF x = decide (N / 57896044618658097711785492504343953926634992332820282019728792003956564819968 = 1)) (hN : N < 115792089237316195423570985008687907853269984665640564039457584007913129639936) : enc x y = N := by
 unfold enc
 rw [hy, ho]
 by_cases h : N / 57896044618658097711785492504343953926634992332820282019728792003956564819968 = 1
 ·rw [decide_eq_true h, if_pos rfl]; omega
 ·rw [decide_eq_false h, if_neg (by simp)]; omega
theorem dec_wrap {l : List UInt8} (hl : l.length = 32) {x y : F} (D : E) (h4 : OnP (x, y)) (hD : D = aff x y) (hy : y.val = (bq l).num % 57896044618658097711785492504343953926634992332820282019728792003956564819968) (h5 : oddF x = decide ((bq l).num / 57896044618658097711785492504343953926634992332820282019728792003956564819968 = 1)) : ∃ p : Pt, OnP p ∧ D = aff p.1 p.2 ∧ encP p = l := by
 refine ⟨(x, y), h4, hD, ?_⟩
 have hn := bq_num l (by omega)
 have e := enc_of hy h5 (num_lt _)
 show leB (enc x y) 32 = l
 rw [e, hn]
 have := leB_le l
 rwa [hl] at this
theorem dec_true {l : List UInt8} (h : (decF l).2 = true) : ∃ p : Pt, OnP p ∧ (decF l).1 = aff p.1 p.2 ∧ encP p = l := by
 unfold decF at h ⊢
 by_cases hl : l.length = 32
 ·rw [if_pos hl] at h ⊢
  rw [decG_eq, topQ_odd] at h ⊢
  obtain ⟨h1, h2, h3⟩ := decH_true h
  obtain ⟨h4, h5⟩ := acrossF_true h2
  exact dec_wrap hl _ h4 h3 ((fromN_val h1).trans (lowQ_num (bq l))) h5
 ·rw [if_neg hl] at h; cases h
theorem dec_false {l : List UInt8} (h : (decF l).2 = false) (p : Pt) (hp : OnP p) : encP p ≠ l := by
 intro he
 have hl : l.length = 32 := by rw [← he]; exact encP_len p
 have hN : (bq l).num = enc p.1 p.2 := by rw [bq_num l (by omega), ← he, encP_le]
 unfold decF at h
 rw [if_pos hl, decG_eq, topQ_odd] at h
 have hm := enc_mod p
 have hlow := lowQ_num (bq l)
 rw [hN, hm.1] at hlow
 have hf : fromN (lowQ (bq l)) = (p.2, true) := by
  unfold fromN
  rw [dif_pos (by rw [hlow]; exact p.2.isLt)]
  exact Prod.ext (Fin.ext hlow) rfl
 rw [hN, hf, hm.2] at h
 have ho : decide ((if oddF p.1 = true then 1 else 0) = 1) = oddF p.1 := by cases oddF p.1 <;> rfl
 rw [ho] at h
 exact acrossF_false (decH_false h) p.1 hp rfl
theorem sum_math {p : Pt} (hp : OnP p) (s k : Q) : sumY s k (aff p.1 p.2) = encP (padd (mulP bP s.num) (mulP (neg p) k.num)) := by
 have h := esum_all (T := TT s k (aff p.1 p.2)) (p := fun j => if j = 0 then bP else neg p) (fun j => by
  show OnP (if j = 0 then bP else neg p)
  split
  ·exact bP_on
  ·exact neg_on hp) (fun j => by
  show Rep (TU s k (aff bX bY) (eneg (aff p.1 p.2)) j).2 (if j = 0 then bP else neg p)
  unfold TU
  by_cases hj : j = 0
  ·rw [if_pos hj, if_pos hj]; exact aff_rep bX bY
  ·rw [if_neg hj, if_neg hj]; exact eneg_rep (aff_rep p.1 p.2)) 2
 have h2 : pS (fun j => if j = 0 then bP else neg p) (fun j => (TT s k (aff p.1 p.2) j).1.num) 2 = padd (mulP bP s.num) (mulP (neg p) k.num) := by
  show padd (padd zero (mulP bP s.num)) (mulP (neg p) k.num) = _
  rw [zero_padd]
 rw [h2] at h
 exact rep_bytes h
theorem right_iff (k t g : List UInt8) : rightE k t g = true ↔ g.length = 64 ∧ le (g.drop 32) < LL ∧ ∃ p : Pt, OnP p ∧ encP p = k ∧ encP (padd (mulP bP (le (g.drop 32))) (mulP (neg p) (kN (g.take 32) k t))) = g.take 32 := by
 unfold rightE
 constructor
 ·intro h
  by_cases h1 : k.length = 32 ∧ g.length = 64
  ·rw [if_pos h1] at h
   by_cases h2 : le (g.drop 32) < LL
   ·rw [if_pos h2] at h
    by_cases h3 : (decF k).2 = true
    ·rw [if_pos h3] at h
     obtain ⟨p, hp, hd, he⟩ := dec_true h3
     have h4 := of_decide_eq_true h
     rw [hd, sum_math hp, bq_num _ (by simp; omega), nq_num (LL_lt (kN_lt _ _ _))] at h4
     exact ⟨h1.2, h2, p, hp, he, h4⟩
    ·rw [if_neg h3] at h; cases h
   ·rw [if_neg h2] at h; cases h
  ·rw [if_neg h1] at h; cases h
 ·rintro ⟨hg, hs, p, hp, he, hr⟩
  have hk : k.length = 32 := by rw [← he]; exact encP_len p
  rw [if_pos ⟨hk, hg⟩, if_pos hs]
  have h3 : (decF k).2 = true := by
   cases h : (decF k).2 with
   | true => rfl
   | false => exact absurd he (dec_false h p hp)
  rw [if_pos h3]
  obtain ⟨p', hp', hd, he'⟩ := dec_true h3
  have hpp : p' = p := encP_inj hp' hp (he'.trans he.symm)
  subst hpp
  refine decide_eq_true ?_
  rw [hd, sum_math hp, bq_num _ (by simp; omega), nq_num (LL_lt (kN_lt _ _ _))]
  exact hr
end Gw
end Go.Proofs.YtbojijefenfbgaaGreatDoor
