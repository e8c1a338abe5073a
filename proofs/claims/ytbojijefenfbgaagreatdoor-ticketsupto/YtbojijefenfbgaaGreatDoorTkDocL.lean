/- Walks of the document's Base, Times. -/
/- Plain mathematics: SHA-512 as the document tells it, on lists of bytes and words of 64 bits. It imports nothing of the program. -/
/- Walks of the document's own small functions of the hash: turn, word, bytes, roots, cubes. -/
import Derived.Test.YtbojijefenfbgaaGreatDoorTkDocK
import Derived.Test.YtbojijefenfbgaaGreatDoorTkScalarA
import Derived.Test.YtbojijefenfbgaaGreatDoorProg
import Derived.Test.YtbojijefenfbgaaGreatDoorTkU
import Derived.WalkKit
import Derived.WalkSpells
import Derived.WalkLawsBesides
import Derived.BigQuiet
import Derived.KernelRfl
namespace Go.Proofs.YtbojijefenfbgaaGreatDoor
open Go.RowKit
namespace Dc
open Bt Ed Cw
theorem small_1 (w : World) : Calls Tryz.prog 43 #[.int .i64 1] w fun e w' => e = .returned (.agg (rn 1)) ∧ Below w.heap.size w w' := small_d 1 (by decide) w
theorem small_0 (w : World) : Calls Tryz.prog 43 #[.int .i64 0] w fun e w' => e = .returned (.agg (rn 0)) ∧ Below w.heap.size w w' := small_d 0 (by decide) w
set_option maxRecDepth 100000 in
set_option maxHeartbeats 1000000 in
theorem base_d (w : World) : Calls Tryz.prog 49 #[] w fun e w' => e = .returned (.agg (tp (taff bX bY))) ∧ Below w.heap.size w w' := by
  have HX : Hid (rn bX = #[.int .i64 54554, .int .i64 36645, .int .i64 11616, .int .i64 51542, .int .i64 42930, .int .i64 38181, .int .i64 51040, .int .i64 26924, .int .i64 56412, .int .i64 64982, .int .i64 57905, .int .i64 49316, .int .i64 21502, .int .i64 52590, .int .i64 14035, .int .i64 8553]) := by
    show _ = _
    rw [rn_def, lit_num]
    exact num_congr (of_decide_eq_true (by kernel_rfl))
  have HY : Hid (rn bY = #[.int .i64 26200, .int .i64 26214, .int .i64 26214, .int .i64 26214, .int .i64 26214, .int .i64 26214, .int .i64 26214, .int .i64 26214, .int .i64 26214, .int .i64 26214, .int .i64 26214, .int .i64 26214, .int .i64 26214, .int .i64 26214, .int .i64 26214, .int .i64 26214]) := by
    show _ = _
    rw [rn_def, lit_num]
    exact num_congr (of_decide_eq_true (by kernel_rfl))
  obtain ⟨x, hx⟩ : ∃ x, x = bX := ⟨_, rfl⟩
  rw [← hx] at HX ⊢
  clear hx
  obtain ⟨y, hy⟩ : ∃ y, y = bY := ⟨_, rfl⟩
  rw [← hy] at HY ⊢
  clear hy
  go_enter Tryz.func49, Tryz.ntmps49
  refine wp_seq (wp_region_list ?_)
  refine l_allocT _ rfl rfl ?_
  simp only [Act.put, List.setIfInBounds_toArray, List.set_cons_zero]
  refine Qt.done ?_
  refine wp_seq (wp_region_list ?_)
  refine Own.wpList_build_at rfl 95 _ rfl (rn x) (by rw [HX.out]; kernel_rfl) ?_
  refine l_alloc _ rfl rfl ?_
  simp only [Act.put, List.setIfInBounds_toArray, List.set_cons_zero, List.set_cons_succ]
  refine new_r rfl _ _ rfl _ x rfl rfl ?_
  simp only [Act.put]
  refine Qt.done ?_
  refine wp_seq (wp_region_list ?_)
  refine Own.wpList_build_at rfl 95 _ rfl (rn y) (by rw [HY.out]; kernel_rfl) ?_
  refine l_alloc _ rfl rfl ?_
  simp only [Act.put, List.setIfInBounds_toArray, List.set_cons_zero, List.set_cons_succ]
  refine new_r rfl _ _ rfl _ y rfl rfl ?_
  simp only [Act.put]
  refine Qt.done ?_
  refine wp_seq ?_
  simp only [World.size_alloc]
  generalize hw0 : World.alloc _ _ = w0
  have h0 := al3 hw0
  have HR0 : Hid (TAt w0 w.heap.size t0) := .zero h0.1
  have HX0 : Hid (RAt w0 (w.heap.size + 1) x) := h0.2.1
  have HY0 : Hid (RAt w0 (w.heap.size + 1 + 1) y) := h0.2.2.1
  have HB0 : Hid _ := h0.2.2.2
  clear hw0 h0
  refine Qt.wp_tail 4 (by kernel_rfl) (by kernel_rfl) ?_
  refine y_r rfl _ rfl (w.heap.size + 1) x rfl HX0.out ?_
  refine y_r rfl _ rfl (w.heap.size + 1 + 1) y rfl HY0.out ?_
  refine Qt.y_call rfl 43 #[.int .i64 1] (.agg (rn 1)) (fun _ => by kernel_rfl) (fun w' _ => small_1 w') ?_
  simp only [Act.put, List.setIfInBounds_toArray, List.set_cons_zero, List.set_cons_succ]
  refine y_bt rfl _ rfl (taff x y) (by kernel_rfl) ?_
  simp only [Act.put, List.setIfInBounds_toArray, List.set_cons_zero, List.set_cons_succ]
  refine Qt.y_nil ?_
  intro w1 hb1
  have HR1 : Hid (TAt w1 w.heap.size t0) := HR0.out.below hb1 HR0.out.lt
  have HB1 : Hid (Below w.heap.size w w1) := HB0.out.trans (hb1.mono HB0.out.size)
  clear hb1
  refine store_t rfl _ _ rfl w.heap.size (taff x y) t0 rfl rfl HR1.out ?_
  go_wp2_with fail
  exact ret_t Tryz.results49 rfl w.heap.size (taff x y) rfl (HR1.out.setRow _) ⟨rfl, HB1.out.trans ((Fw.below_setRow _ _ _).mono (Nat.le_refl _))⟩
theorem new_r' {ops : Array Oper} {rest : List Oper} {o : Oper} {a : Act} {W : World} {Q : Exit → Act → World → Prop} (hgd : o.guard = none) (x y : Operand) (ho : o.op = .store 95 x y) (v : F) (hy : a.eval y = .agg (rn v)) (w : World) (g : Nat → Int) (hW : W = w.alloc (.cells (num g) 95))
    (hx : a.eval x = .pointer (some ⟨w.heap.size, 0, none⟩))
    (h : wpList Tryz.prog ops Q rest (a.put o.dst undef) (w.alloc (.cells (rn v) 95))) : wpList Tryz.prog ops Q (o :: rest) a W := by
  subst hW
  exact new_r hgd x y ho g v hx hy h
theorem l_bt {ops : Array Oper} {rest : List Oper} {o : Oper} {a : Act} {w : World} {Q : Exit → Act → World → Prop} (hg : o.guard = none) (parts : Array (Nat × Operand)) (ho : o.op = .build 100 parts) (e : T3) (hf : (parts.map fun (i, x) => (i, a.eval x)).toList = [(0, .agg (rn e.x)), (1, .agg (rn e.y)), (2, .agg (rn e.z))])
    (h : wpList Tryz.prog ops Q rest (a.put o.dst (.agg (tp e))) w) : wpList Tryz.prog ops Q (o :: rest) a w :=
  Own.wpList_build_at hg 100 parts ho (tp e) (by rw [hf]; exact built_tp e.x e.y e.z) h
theorem new_t {ops : Array Oper} {rest : List Oper} {o : Oper} {a : Act} {w : World} {Q : Exit → Act → World → Prop} (hgd : o.guard = none) (x y : Operand) (ho : o.op = .store 100 x y) (v : T3)
    (hx : a.eval x = .pointer (some ⟨w.heap.size, 0, none⟩)) (hy : a.eval y = .agg (tp v))
    (h : wpList Tryz.prog ops Q rest (a.put o.dst undef) (w.alloc (.cells (tp v) 100))) : wpList Tryz.prog ops Q (o :: rest) a (w.alloc (.cells tpZ 100)) :=
  Own.wpList_store_new hgd 100 x y ho tpZ (tp v) 100 hx hy (by rw [tp_size]; kernel_rfl) (by rw [tp_size]; rfl) (tp_one v) h
theorem new_t' {ops : Array Oper} {rest : List Oper} {o : Oper} {a : Act} {W : World} {Q : Exit → Act → World → Prop} (hgd : o.guard = none) (x y : Operand) (ho : o.op = .store 100 x y) (v : T3) (hy : a.eval y = .agg (tp v)) (w : World) (hW : W = w.alloc (.cells tpZ 100))
    (hx : a.eval x = .pointer (some ⟨w.heap.size, 0, none⟩))
    (h : wpList Tryz.prog ops Q rest (a.put o.dst undef) (w.alloc (.cells (tp v) 100))) : wpList Tryz.prog ops Q (o :: rest) a W := by
  subst hW
  exact new_t hgd x y ho v hx hy h
/-- The document's Times: a number's highest bits first. -/
noncomputable def tmul (p : T3) (N : Nat) : Nat → T3
  | 0 => taff 0 1
  | d + 1 => if N / 2 ^ (255 - d) % 2 = 1 then tsum (tsum (tmul p N d) (tmul p N d)) p else tsum (tmul p N d) (tmul p N d)
theorem tmul_rep {e : T3} {p : Pt} (hp : OnP p) (he : RepT e p) (N : Nat) (hN : N < 2 ^ 256) (d : Nat) (hd : d ≤ 256) : RepT (tmul e N d) (mulP p (N / 2 ^ (256 - d))) := by
  induction d with
  | zero =>
    rw [Nat.div_eq_of_lt hN]
    exact taff_rep 0 1
  | succ d ih =>
    have h1 := ih (by omega)
    have h2 := tsum_rep (mulP_on hp _) (mulP_on hp _) h1 h1
    rw [← mulP_add hp, ← Nat.two_mul] at h2
    have e1 : 256 - d = 255 - d + 1 := by omega
    have e2 : 256 - (d + 1) = 255 - d := by omega
    have h3 := half_eq N (255 - d)
    rw [← e1] at h3
    rw [e2, h3, tmul]
    by_cases hb : N / 2 ^ (255 - d) % 2 = 1
    · rw [if_pos hb, hb]
      exact tsum_rep (mulP_on hp _) hp h2 he
    · rw [if_neg hb, show N / 2 ^ (255 - d) % 2 = 0 by omega]
      exact h2
set_option maxRecDepth 100000 in
set_option maxHeartbeats 1000000 in
theorem times_d (p : T3) (N : Nat) (w : World) : Calls Tryz.prog 48 #[.agg (tp p), .agg (nm (N : Int))] w fun e w' => e = .returned (.agg (tp (tmul p N 256))) ∧ Below w.heap.size w w' := by
  have Hcu : Hid (∀ w, Calls Tryz.prog 50 #[] w fun e w' => e = .returned (.agg (rn dD)) ∧ Below w.heap.size w w') := curve_d
  have Hs0 : Hid (∀ w, Calls Tryz.prog 43 #[.int .i64 0] w fun e w' => e = .returned (.agg (rn 0)) ∧ Below w.heap.size w w') := small_0
  have Hs1 : Hid (∀ w, Calls Tryz.prog 43 #[.int .i64 1] w fun e w' => e = .returned (.agg (rn 1)) ∧ Below w.heap.size w w') := small_1
  have Hsum : Hid (∀ p q w, Calls Tryz.prog 47 #[.agg (tp p), .agg (tp q), .agg (rn dD)] w fun e w' => e = .returned (.agg (tp (tsum p q))) ∧ Below w.heap.size w w') := fun p q w => sum_d p q dD w
  obtain ⟨D, hD⟩ : ∃ D, D = dD := ⟨_, rfl⟩
  rw [← hD] at Hcu Hsum
  clear hD
  go_enter Tryz.func48, Tryz.ntmps48
  go_wp2_with (refine l_allocT _ rfl rfl ?_)
  generalize hw0 : World.alloc _ _ = w0
  obtain ⟨g, hg⟩ : ∃ g, g = w.heap.size := ⟨_, rfl⟩
  have h0 := al3 hw0
  rw [← hg] at h0 ⊢
  have HA0 : Hid (TAt w0 g p) := h0.1
  have HE0 : Hid _ := h0.2.1
  have HR0 : Hid (TAt w0 (g + 1 + 1) t0) := .zero h0.2.2.1
  have HB0 : Hid _ := h0.2.2.2
  have HG : Hid (w.heap.size ≤ g) := Nat.le_of_eq hg.symm
  clear hg hw0 h0
  refine (Hcu.out _).mono ?_
  rintro e w1 ⟨rfl, hb1⟩
  have HA1 : Hid (TAt w1 g p) := HA0.out.below hb1 HA0.out.lt
  have HE1 : Hid (w1.heap[g + 1]? = _) := (hb1.block _ (Array.getElem?_eq_some_iff.1 HE0.out).1).trans HE0.out
  have HR1 : Hid (TAt w1 (g + 1 + 1) t0) := HR0.out.below hb1 HR0.out.lt
  have HB1 : Hid (Below g w w1) := HB0.out.trans (hb1.mono (Nat.le_of_lt HA0.out.lt))
  clear hb1 HA0 HE0 HR0 HB0 Hcu
  obtain ⟨gd, hgd⟩ : ∃ x, x = w1.heap.size := ⟨_, rfl⟩
  have hgl : g + 1 + 1 < gd := by
    rw [hgd]
    exact HR1.out.lt
  go_wp2_with (first | refine l_alloc _ rfl rfl ?_ | refine new_r' rfl _ _ rfl D rfl _ _ rfl rfl ?_)
  generalize hw0 : World.alloc _ _ = w2
  have h0 := al1 hw0
  rw [← hgd] at h0 ⊢
  have HA2 : Hid (TAt w2 g p) := HA1.out.below h0.2 (by omega)
  have HE2 : Hid (w2.heap[g + 1]? = _) := (h0.2.block _ (by omega)).trans HE1.out
  have HR2 : Hid (TAt w2 (g + 1 + 1) t0) := HR1.out.below h0.2 (by omega)
  have HD2 : Hid (RAt w2 gd D) := h0.1
  have HB2 : Hid (Below g w w2) := HB1.out.trans (h0.2.mono (by omega))
  clear hw0 h0 hgd HA1 HE1 HR1 HB1
  refine (Hs0.out _).mono ?_
  rintro e w3 ⟨rfl, hb3⟩
  go_wp2_with fail
  refine (Hs1.out _).mono ?_
  rintro e w4 ⟨rfl, hb4⟩
  go_wp2_with fail
  refine (Hs1.out _).mono ?_
  rintro e w5 ⟨rfl, hb5⟩
  have HX : Below w2.heap.size w2 w5 := (hb3.trans (hb4.mono hb3.size)).trans (hb5.mono (Nat.le_trans hb3.size hb4.size))
  have HA5 : Hid (TAt w5 g p) := HA2.out.below HX HA2.out.lt
  have HE5 : Hid (w5.heap[g + 1]? = _) := (HX.block _ (Array.getElem?_eq_some_iff.1 HE2.out).1).trans HE2.out
  have HR5 : Hid (TAt w5 (g + 1 + 1) t0) := HR2.out.below HX HR2.out.lt
  have HD5 : Hid (RAt w5 gd D) := HD2.out.below HX HD2.out.lt
  have HB5 : Hid (Below g w w5) := HB2.out.trans (HX.mono (Nat.le_of_lt HA2.out.lt))
  clear hb3 hb4 hb5 HX HA2 HE2 HR2 HD2 HB2 Hs0 Hs1
  obtain ⟨go, hgo⟩ : ∃ x, x = w5.heap.size := ⟨_, rfl⟩
  have hgl2 : gd < go := by
    rw [hgo]
    exact HD5.out.lt
  go_wp2_with (first | refine l_bt rfl _ rfl (taff 0 1) (by kernel_rfl) ?_ | refine l_allocT _ rfl rfl ?_ | refine new_t' rfl _ _ rfl (taff 0 1) rfl _ rfl rfl ?_)
  generalize hw0 : World.alloc _ _ = w6
  have h0 := al1 hw0
  rw [← hgo] at h0 ⊢
  have HA6 : Hid (TAt w6 g p) := HA5.out.below h0.2 (by omega)
  have HE6 : Hid (w6.heap[g + 1]? = _) := (h0.2.block _ (by omega)).trans HE5.out
  have HR6 : Hid (TAt w6 (g + 1 + 1) t0) := HR5.out.below h0.2 (by omega)
  have HD6 : Hid (RAt w6 gd D) := HD5.out.below h0.2 (by omega)
  have HO6 : Hid (TAt w6 go (tmul p N 0)) := h0.1
  have HB6 : Hid (Below g w w6) := HB5.out.trans (h0.2.mono (by omega))
  clear hw0 h0 hgo HA5 HE5 HR5 HD5 HB5
  go_loopw [7] (fun i wq => ∃ d : Nat, d ≤ 256 ∧ i = .int .i64 (255 - (d : Int)) ∧ TAt wq g p ∧ wq.heap[g + 1]? = some (.cells (nm (N : Int)) 95 (0, 0)) ∧ TAt wq (g + 1 + 1) t0 ∧ RAt wq gd D ∧ TAt wq go (tmul p N d) ∧ Below g w wq) (fun i _ => (intOf i + 1).toNat)
  case atStart => exact ⟨0, by omega, rfl, HA6.out, HE6.out, HR6.out, HD6.out, HO6.out, HB6.out⟩
  case round =>
    clear HA6 HE6 HR6 HD6 HO6 HB6
    rename World => wa
    obtain ⟨d, hd, rfl, ha, he, hr, hdd, ho, hb⟩ := hrel
    have HA : Hid (TAt wa g p) := ha
    have HE : Hid _ := he
    have HR : Hid (TAt wa (g + 1 + 1) t0) := hr
    have HD : Hid (RAt wa gd D) := hdd
    have HO : Hid (TAt wa go (tmul p N d)) := ho
    have HB : Hid _ := hb
    clear ha he hr hdd ho hb
    by_cases hd0 : d = 256
    · subst hd0
      obtain ⟨v, hv⟩ : ∃ v, v = tmul p N 256 := ⟨_, rfl⟩
      rw [← hv] at HO
      have Hv : Hid _ := hv
      clear hv
      go_wp2_with (first | refine load_t rfl _ rfl go v rfl HO.out ?_ | refine store_t rfl _ _ rfl (g + 1 + 1) v t0 rfl rfl HR.out ?_)
      exact ret_t Tryz.results48 rfl (g + 1 + 1) v rfl (HR.out.setRow v) ⟨by rw [Hv.out], (HB.out.trans ((Fw.below_setRow _ _ _).mono (by omega))).mono HG.out⟩
    · obtain ⟨i, hi⟩ : ∃ i, i = 255 - d := ⟨_, rfl⟩
      have ei : (255 : Int) - (d : Int) = (i : Int) := by omega
      rw [ei]
      have Hm : Hid (tmul p N (d + 1) = if N / 2 ^ i % 2 = 1 then tsum (tsum (tmul p N d) (tmul p N d)) p else tsum (tmul p N d) (tmul p N d)) := by rw [hi]; rfl
      obtain ⟨v, hv⟩ : ∃ v, v = tmul p N d := ⟨_, rfl⟩
      rw [← hv] at HO Hm
      have Hi : Hid (i = 255 - d) := hi
      have hlt : i < 256 := by omega
      clear hv hi ei
      go_wp2_with (first | refine load_t rfl _ rfl go v rfl HO.out ?_ | refine load_r rfl _ rfl gd D rfl HD.out ?_)
      refine (Hsum.out _ _ _).mono ?_
      rintro e w3 ⟨rfl, hb3⟩
      have HA3 : Hid (TAt w3 g p) := HA.out.below hb3 HA.out.lt
      have HE3 : Hid (w3.heap[g + 1]? = _) := (hb3.block _ (Array.getElem?_eq_some_iff.1 HE.out).1).trans HE.out
      have HR3 : Hid (TAt w3 (g + 1 + 1) t0) := HR.out.below hb3 HR.out.lt
      have HD3 : Hid (RAt w3 gd D) := HD.out.below hb3 HD.out.lt
      have HO3 : Hid (TAt w3 go v) := HO.out.below hb3 HO.out.lt
      have HB3 : Hid (Below g w w3) := HB.out.trans (hb3.mono (Nat.le_of_lt HA.out.lt))
      clear hb3 HA HE HR HD HO HB
      obtain ⟨u, hu⟩ : ∃ u, u = tsum v v := ⟨_, rfl⟩
      rw [← hu] at Hm ⊢
      clear hu
      have HB4 : Hid (Below go w3 (w3.setRow go (tp u))) := Fw.below_setRow _ _ _
      have HA4 : Hid (TAt (w3.setRow go (tp u)) g p) := HA3.out.below HB4.out (by omega)
      have HE4 : Hid ((w3.setRow go (tp u)).heap[g + 1]? = _) := (HB4.out.block _ (by omega)).trans HE3.out
      have HR4 : Hid (TAt (w3.setRow go (tp u)) (g + 1 + 1) t0) := HR3.out.below HB4.out (by omega)
      have HD4 : Hid (RAt (w3.setRow go (tp u)) gd D) := HD3.out.below HB4.out (by omega)
      have HO4 : Hid (TAt (w3.setRow go (tp u)) go u) := HO3.out.setRow u
      have HC4 : Hid (Below g w (w3.setRow go (tp u))) := HB3.out.trans (HB4.out.mono (by omega))
      obtain ⟨w4, hw4⟩ : ∃ w4, w4 = w3.setRow go (tp u) := ⟨_, rfl⟩
      rw [← hw4] at HA4 HE4 HR4 HD4 HO4 HC4
      have Hw4 : Hid _ := hw4
      clear hw4 HB4 HA3 HE3 HR3 HD3 HB3
      have hc : w4.cell? ⟨g + 1, i / 16, none⟩ = some (.int .i64 (dg (N : Int) (i / 16))) := num_cell HE4.out (i / 16) (by omega)
      have hdb := dg_bd (N : Int) (i / 16)
      have hbit := bit_eq N i
      obtain ⟨c, hcd⟩ : ∃ c, c = dg (N : Int) (i / 16) := ⟨_, rfl⟩
      rw [← hcd] at hc hdb hbit
      clear hcd
      have htm : (c / 2 ^ (i % 16)).tmod 2 = ((N / 2 ^ i % 2 : Nat) : Int) := by
        rw [Int.tmod_eq_emod_of_nonneg (Int.ediv_nonneg hdb.1 (Int.le_of_lt (Int.pow_pos (by decide)))), hbit]
      clear hbit
      by_cases h1 : N / 2 ^ i % 2 = 1
      · rw [if_pos h1] at Hm
        rw [h1] at htm
        clear h1
        go_wp2_with (first | (refine store_t rfl _ _ rfl go u v rfl rfl HO3.out ?_; rw [← Hw4.out]) | refine load_t rfl _ rfl go u rfl HO4.out ?_ | refine load_t rfl _ rfl g p rfl HA4.out ?_ | refine load_r rfl _ rfl gd D rfl HD4.out ?_)
        refine (Hsum.out _ _ _).mono ?_
        rintro e w5 ⟨rfl, hb5⟩
        rw [← Hm.out]
        have HA5 : Hid (TAt w5 g p) := HA4.out.below hb5 HA4.out.lt
        have HE5 : Hid (w5.heap[g + 1]? = _) := (hb5.block _ (Array.getElem?_eq_some_iff.1 HE4.out).1).trans HE4.out
        have HR5 : Hid (TAt w5 (g + 1 + 1) t0) := HR4.out.below hb5 HR4.out.lt
        have HD5 : Hid (RAt w5 gd D) := HD4.out.below hb5 HD4.out.lt
        have HO5 : Hid (TAt w5 go u) := HO4.out.below hb5 HO4.out.lt
        have HB5 : Hid (Below g w w5) := HC4.out.trans (hb5.mono (Nat.le_of_lt HA4.out.lt))
        clear hb5
        obtain ⟨z, hz⟩ : ∃ z, z = tmul p N (d + 1) := ⟨_, rfl⟩
        rw [← hz]
        have Hz : Hid _ := hz
        clear hz
        go_wp2_with (refine store_t rfl _ _ rfl go z u rfl rfl HO5.out ?_)
        have HB6 : Below go w5 (w5.setRow go (tp z)) := Fw.below_setRow _ _ _
        have hi := Hi.out
        refine ⟨⟨d + 1, by omega, by congr 1; omega, HA5.out.below HB6 (by omega), (HB6.block _ (by omega)).trans HE5.out, HR5.out.below HB6 (by omega), HD5.out.below HB6 (by omega), by rw [← Hz.out]; exact HO5.out.setRow z, HB5.out.trans (HB6.mono (by omega))⟩, ?_⟩
        show ((i : Int) - 1 + 1).toNat < ((i : Int) + 1).toNat
        omega
      · rw [if_neg h1] at Hm
        have h0 : N / 2 ^ i % 2 = 0 := by omega
        rw [h0] at htm
        clear h1 h0
        go_wp2_with (refine store_t rfl _ _ rfl go u v rfl rfl HO3.out ?_; rw [← Hw4.out])
        have hi := Hi.out
        refine ⟨⟨d + 1, by omega, by congr 1; omega, HA4.out, HE4.out, HR4.out, HD4.out, by rw [Hm.out]; exact HO4.out, HC4.out⟩, ?_⟩
        show ((i : Int) - 1 + 1).toNat < ((i : Int) + 1).toNat
        omega
end Dc
end Go.Proofs.YtbojijefenfbgaaGreatDoor
namespace Go.Proofs.YtbojijefenfbgaaGreatDoor
namespace Sha

def rotr (x : BitVec 64) (n : Nat) : BitVec 64 := x >>> n ||| x <<< (64 - n)
def lowS (x : BitVec 64) : BitVec 64 := rotr x 1 ^^^ rotr x 8 ^^^ x >>> 7
def highS (x : BitVec 64) : BitVec 64 := rotr x 19 ^^^ rotr x 61 ^^^ x >>> 6
def bigE (x : BitVec 64) : BitVec 64 := rotr x 14 ^^^ rotr x 18 ^^^ rotr x 41
def bigA (x : BitVec 64) : BitVec 64 := rotr x 28 ^^^ rotr x 34 ^^^ rotr x 39
def ch (e f g : BitVec 64) : BitVec 64 := (e &&& f) ^^^ (~~~ e &&& g)
def maj (a b c : BitVec 64) : BitVec 64 := (a &&& b) ^^^ (a &&& c) ^^^ (b &&& c)

/-- A byte more behind a word. -/
def more (x : BitVec 64) (c : UInt8) : BitVec 64 := 256#64 * x + BitVec.ofNat 64 c.toNat
def wordOf (l : List UInt8) : BitVec 64 := l.foldl more 0#64
def wordAt (l : List UInt8) (p : Nat) : BitVec 64 := wordOf ((l.drop p).take 8)

/-- A word's eight bytes, the highest first: byte i. -/
def byteOf (x : BitVec 64) (i : Nat) : UInt8 := UInt8.ofNat (x >>> (56 - 8 * i)).toNat
def bytesOf (x : BitVec 64) : List UInt8 := [byteOf x 0, byteOf x 1, byteOf x 2, byteOf x 3, byteOf x 4, byteOf x 5, byteOf x 6, byteOf x 7]

/-- The words W of a block whose first sixteen are b. -/
def nextW (b : Nat → BitVec 64) (l : List (BitVec 64)) (n : Nat) : BitVec 64 :=
  if n < 16 then b n else highS (l.getD (n - 2) 0#64) + l.getD (n - 7) 0#64 + lowS (l.getD (n - 15) 0#64) + l.getD (n - 16) 0#64
def wl (b : Nat → BitVec 64) : Nat → List (BitVec 64)
  | 0 => []
  | n + 1 => wl b n ++ [nextW b (wl b n) n]
def W (b : Nat → BitVec 64) (n : Nat) : BitVec 64 := nextW b (wl b n) n

structure St where
  a : BitVec 64
  b : BitVec 64
  c : BitVec 64
  d : BitVec 64
  e : BitVec 64
  f : BitVec 64
  g : BitVec 64
  h : BitVec 64

def St.list (s : St) : List (BitVec 64) := [s.a, s.b, s.c, s.d, s.e, s.f, s.g, s.h]
def St.add (s t : St) : St := ⟨s.a + t.a, s.b + t.b, s.c + t.c, s.d + t.d, s.e + t.e, s.f + t.f, s.g + t.g, s.h + t.h⟩

def tOf (s : St) (k w : BitVec 64) : BitVec 64 := s.h + bigE s.e + ch s.e s.f s.g + k + w
def uOf (s : St) : BitVec 64 := bigA s.a + maj s.a s.b s.c
def round (s : St) (k w : BitVec 64) : St := ⟨tOf s k w + uOf s, s.a, s.b, s.c, s.d + tOf s k w, s.e, s.f, s.g⟩

def start : St := ⟨0x6a09e667f3bcc908#64, 0xbb67ae8584caa73b#64, 0x3c6ef372fe94f82b#64, 0xa54ff53a5f1d36f1#64, 0x510e527fade682d1#64, 0x9b05688c2b3e6c1f#64, 0x1f83d9abfb41bd6b#64, 0x5be0cd19137e2179#64⟩
def K : List (BitVec 64) := [
  0x428a2f98d728ae22#64, 0x7137449123ef65cd#64, 0xb5c0fbcfec4d3b2f#64, 0xe9b5dba58189dbbc#64,
  0x3956c25bf348b538#64, 0x59f111f1b605d019#64, 0x923f82a4af194f9b#64, 0xab1c5ed5da6d8118#64,
  0xd807aa98a3030242#64, 0x12835b0145706fbe#64, 0x243185be4ee4b28c#64, 0x550c7dc3d5ffb4e2#64,
  0x72be5d74f27b896f#64, 0x80deb1fe3b1696b1#64, 0x9bdc06a725c71235#64, 0xc19bf174cf692694#64,
  0xe49b69c19ef14ad2#64, 0xefbe4786384f25e3#64, 0x0fc19dc68b8cd5b5#64, 0x240ca1cc77ac9c65#64,
  0x2de92c6f592b0275#64, 0x4a7484aa6ea6e483#64, 0x5cb0a9dcbd41fbd4#64, 0x76f988da831153b5#64,
  0x983e5152ee66dfab#64, 0xa831c66d2db43210#64, 0xb00327c898fb213f#64, 0xbf597fc7beef0ee4#64,
  0xc6e00bf33da88fc2#64, 0xd5a79147930aa725#64, 0x06ca6351e003826f#64, 0x142929670a0e6e70#64,
  0x27b70a8546d22ffc#64, 0x2e1b21385c26c926#64, 0x4d2c6dfc5ac42aed#64, 0x53380d139d95b3df#64,
  0x650a73548baf63de#64, 0x766a0abb3c77b2a8#64, 0x81c2c92e47edaee6#64, 0x92722c851482353b#64,
  0xa2bfe8a14cf10364#64, 0xa81a664bbc423001#64, 0xc24b8b70d0f89791#64, 0xc76c51a30654be30#64,
  0xd192e819d6ef5218#64, 0xd69906245565a910#64, 0xf40e35855771202a#64, 0x106aa07032bbd1b8#64,
  0x19a4c116b8d2d0c8#64, 0x1e376c085141ab53#64, 0x2748774cdf8eeb99#64, 0x34b0bcb5e19b48a8#64,
  0x391c0cb3c5c95a63#64, 0x4ed8aa4ae3418acb#64, 0x5b9cca4f7763e373#64, 0x682e6ff3d6b2b8a3#64,
  0x748f82ee5defb2fc#64, 0x78a5636f43172f60#64, 0x84c87814a1f0ab72#64, 0x8cc702081a6439ec#64,
  0x90befffa23631e28#64, 0xa4506cebde82bde9#64, 0xbef9a3f7b2c67915#64, 0xc67178f2e372532b#64,
  0xca273eceea26619c#64, 0xd186b8c721c0c207#64, 0xeada7dd6cde0eb1e#64, 0xf57d4f7fee6ed178#64,
  0x06f067aa72176fba#64, 0x0a637dc5a2c898a6#64, 0x113f9804bef90dae#64, 0x1b710b35131c471b#64,
  0x28db77f523047d84#64, 0x32caab7b40c72493#64, 0x3c9ebe0a15c9bebc#64, 0x431d67c49c100d4c#64,
  0x4cc5d4becb3e42b6#64, 0x597f299cfc657e2a#64, 0x5fcb6fab3ad6faec#64, 0x6c44198c4a475817#64]
def kAt (n : Nat) : BitVec 64 := K.getD n 0#64

def rounds (b : Nat → BitVec 64) (s : St) : Nat → St
  | 0 => s
  | n + 1 => round (rounds b s n) (kAt n) (W b n)
def compress (s : St) (b : Nat → BitVec 64) : St := s.add (rounds b s 80)

/-- The words of block n of a text. -/
def blockAt (l : List UInt8) (n : Nat) : Nat → BitVec 64 := fun j => wordAt l (128 * n + 8 * j)
def chain (l : List UInt8) : Nat → St
  | 0 => start
  | n + 1 => compress (chain l n) (blockAt l n)
def out (s : St) : List UInt8 := bytesOf s.a ++ bytesOf s.b ++ bytesOf s.c ++ bytesOf s.d ++ bytesOf s.e ++ bytesOf s.f ++ bytesOf s.g ++ bytesOf s.h

/-- How many noughts lie behind the byte 128 (the eight high bytes of the length among them). -/
def gap (n : Nat) : Nat := (128 - (n + 17) % 128) % 128 + 8
def padded (l : List UInt8) : List UInt8 := l ++ [128] ++ List.replicate (gap l.length) 0 ++ bytesOf (BitVec.ofNat 64 (8 * l.length))
def sha (l : List UInt8) : List UInt8 := out (chain (padded l) ((padded l).length / 128))

theorem wl_length (b : Nat → BitVec 64) (n : Nat) : (wl b n).length = n := by
  induction n with
  | zero => rfl
  | succ n ih => simp [wl, ih]
theorem wl_get (b : Nat → BitVec 64) (n j : Nat) (h : j < n) : (wl b n).getD j 0#64 = W b j := by
  induction n with
  | zero => omega
  | succ n ih =>
    by_cases e : j < n
    · rw [← ih e]
      simp only [wl, List.getD_eq_getElem?_getD]
      rw [List.getElem?_append_left (by rw [wl_length]; exact e)]
    · obtain rfl : j = n := by omega
      simp only [wl, List.getD_eq_getElem?_getD]
      rw [List.getElem?_append_right (by rw [wl_length]; omega), wl_length]
      simp [W]
theorem W_low (b : Nat → BitVec 64) (n : Nat) (h : n < 16) : W b n = b n := by simp [W, nextW, h]
theorem W_high (b : Nat → BitVec 64) (n : Nat) (h : 16 ≤ n) : W b n = highS (W b (n - 2)) + W b (n - 7) + lowS (W b (n - 15)) + W b (n - 16) := by
  have : ¬ n < 16 := by omega
  simp only [W, nextW, this, if_false]
  rw [wl_get b n _ (by omega), wl_get b n _ (by omega), wl_get b n _ (by omega), wl_get b n _ (by omega)]
  rfl
theorem K_length : K.length = 80 := rfl
theorem bytesOf_length (x : BitVec 64) : (bytesOf x).length = 8 := rfl
theorem out_length (s : St) : (out s).length = 64 := by simp [out, bytesOf_length]
theorem padded_length (l : List UInt8) : (padded l).length = l.length + 9 + gap l.length := by simp [padded, bytesOf_length]; omega
theorem padded_mod (l : List UInt8) : (padded l).length % 128 = 0 := by rw [padded_length]; unfold gap; omega
theorem sha_length (l : List UInt8) : (sha l).length = 64 := out_length _
end Sha
end Go.Proofs.YtbojijefenfbgaaGreatDoor
namespace Go.Proofs.YtbojijefenfbgaaGreatDoor
open Go.RowKit
attribute [local go_sem] UV.u_add UV.u_mul UV.u_sub UV.u_xor UV.u_and UV.u_or UV.u_shr UV.u_shl UV.u_not UV.u_mul_lit UV.u_wrap_un

set_option maxHeartbeats 400000 in
theorem refTurn_any (x : BitVec 64) (n : Nat) (h1 : 1 ≤ n) (h2 : n ≤ 63) (w : World) :
    Calls Tryz.prog 103 #[.int .u64 (un x), .int .i64 (n : Int)] w fun e w' => e = .returned (.int .u64 (un (Sha.rotr x n))) ∧ ∃ k, w' = w.drewN k := by
  go_enter Tryz.func103, Tryz.ntmps103
  go_wp2
  go_quiet (fail)
  go_wp2
  go_ret
  exact ⟨rfl, _, rfl⟩

theorem refTurn_int (x : BitVec 64) (n : Int) (h1 : 1 ≤ n) (h2 : n ≤ 63) (w : World) :
    Calls Tryz.prog 103 #[.int .u64 (un x), .int .i64 n] w fun e w' => e = .returned (.int .u64 (un (Sha.rotr x n.toNat))) ∧ ∃ k, w' = w.drewN k := by
  have h := refTurn_any x n.toNat (by omega) (by omega) w
  rw [Int.toNat_of_nonneg (by omega)] at h
  exact h
theorem more_eq (x : BitVec 64) (c : UInt8) : IntKind.u64.wrap (IntKind.u64.wrap (256 * un x) + IntKind.u64.wrap (c.toNat : Int)) = un (Sha.more x c) := by
  rw [show IntKind.u64.wrap (256 * un x) = un (256#64 * x) from UV.u_mul_lit 256 x, UV.u_wrap, UV.u_add]; rfl
theorem wordOf_snoc (l : List UInt8) (c : UInt8) : Sha.wordOf (l ++ [c]) = Sha.more (Sha.wordOf l) c := by simp [Sha.wordOf]
theorem take_drop_snoc (s : ByteArray) (p k : Nat) (h : p + k < s.size) : (s.data.toList.drop p).take (k + 1) = (s.data.toList.drop p).take k ++ [s[p + k]] := by
  rw [List.take_succ_eq_append_getElem (by simp; have : s.data.size = s.size := rfl; omega)]
  congr 2
  rw [List.getElem_drop]; rfl

set_option maxHeartbeats 400000 in
theorem refWord_any (s : ByteArray) (p : Nat) (h : p + 8 ≤ s.size) (hs : s.size ≤ 4000000000000) (w : World) :
    Calls Tryz.prog 102 #[.string s, .int .i64 (p : Int)] w fun e w' => e = .returned (.int .u64 (un (Sha.wordAt s.data.toList p))) ∧ w' = w := by
  go_enter Tryz.func102, Tryz.ntmps102
  go_wp2
  go_loop [5, 6] (fun x i => ∃ k : Nat, k ≤ 8 ∧ i = .int .i64 k ∧ x = .int .u64 (un (Sha.wordOf ((s.data.toList.drop p).take k)))) (fun _ i => 8 - (intOf i).toNat)
  case atStart => exact ⟨0, Nat.zero_le _, rfl, rfl⟩
  case round =>
    obtain ⟨k, hk, rfl, rfl⟩ := hrel
    by_cases hlt : k < 8
    · go_wp2
      exact ⟨⟨k + 1, by omega, by go_num, by rw [take_drop_snoc s p k (by omega), wordOf_snoc, ← more_eq]⟩, by simp [intOf]; omega⟩
    · obtain rfl : k = 8 := by omega
      go_wp2
      go_ret
      exact ⟨rfl, rfl⟩

theorem refWord_int (s : ByteArray) (p : Int) (h0 : 0 ≤ p) (h : p + 8 ≤ s.size) (hs : s.size ≤ 4000000000000) (w : World) :
    Calls Tryz.prog 102 #[.string s, .int .i64 p] w fun e w' => e = .returned (.int .u64 (un (Sha.wordAt s.data.toList p.toNat))) ∧ w' = w := by
  have h := refWord_any s p.toNat (by omega) hs w
  rw [Int.toNat_of_nonneg (by omega)] at h
  exact h
theorem info_u8 : (Tryz.prog.info? 5).map (fun i => (i.zero, i.size, i.bytes)) = some (some (.int .u8 0), 1, 1) := by kernel_rfl
def f8 (x : BitVec 64) (k : Nat) (j : Nat) : Value := if 8 ≤ j + k then Value.int .u8 ((Sha.byteOf x j).toNat : Int) else .int .u8 0
theorem quo256 (x : BitVec 64) : IntKind.u64.wrap ((un x).tdiv 256) = un (x >>> 8) := by
  rw [Int.tdiv_eq_ediv_of_nonneg (UV.un_lo x), show (256 : Int) = 2 ^ 8 from rfl, UV.u_shr, UV.u_wrap_un]
theorem rem256 (x : BitVec 64) (n : Nat) (_h : n ≤ 56) : un (x >>> n) % 256 = ((UInt8.ofNat (x >>> n).toNat).toNat : Int) := by
  unfold un; simp
theorem f8_step (x : BitVec 64) (k : Nat) (hk : k < 8) (j : Nat) (hj : j < 8) : (if j = 7 - k then Value.int .u8 (un (x >>> (8 * k)) % 256) else f8 x k j) = f8 x (k + 1) j := by
  by_cases e : j = 7 - k
  · rw [if_pos e, rem256 x (8 * k) (by omega)]
    unfold f8
    rw [if_pos (by omega)]
    simp only [Sha.byteOf]
    rw [show 56 - 8 * j = 8 * k by omega]
  · rw [if_neg e]
    unfold f8
    by_cases h : 8 ≤ j + k
    · rw [if_pos h, if_pos (by omega)]
    · rw [if_neg h, if_neg (by omega)]
theorem bytesOf_get (x : BitVec 64) (j : Nat) (h : j < (Sha.bytesOf x).length) : (Sha.bytesOf x)[j] = Sha.byteOf x j := by
  have h' : j < 8 := h
  rcases j with _ | _ | _ | _ | _ | _ | _ | _ | j
  all_goals first | rfl | omega
theorem shr_shr (x : BitVec 64) (k : Nat) : x >>> (8 * k) >>> 8 = x >>> (8 * (k + 1)) := by
  rw [← BitVec.shiftRight_add, show 8 * k + 8 = 8 * (k + 1) by omega]

set_option maxHeartbeats 400000 in
theorem refBytes_any (x : BitVec 64) (w : World) :
    Calls Tryz.prog 99 #[.int .u64 (un x)] w fun e w' => e = .returned (.string ⟨(Sha.bytesOf x).toArray⟩) ∧ Below w.heap.size w w' := by
  go_enter Tryz.func99, Tryz.ntmps99
  go_wp2_with (at_make; refine Own.wpList_make_at _ rfl _ _ 145 rfl 5 (.int .u8 0) 1 Tryz.underlying145 info_u8 rfl .i64 .i64 _ _ 8 rfl rfl rfl rfl (by decide) (by decide) ?_)
  go_loopw [0, 4] (fun x' i wr => ∃ k : Nat, k ≤ 8 ∧ i = .int .i64 (7 - (k : Int)) ∧ x' = .int .u64 (un (x >>> (8 * k))) ∧ Below w.heap.size w wr ∧ wr.heap[w.heap.size]? = some (.cells (Own.mkRow 8 (f8 x k)) 5 (0, 0))) (fun _ i _ => (1 + intOf i).toNat)
  case atStart => 
    exact ⟨0, by omega, rfl, by simp, (Below.refl _ _).alloc (Nat.le_refl _) _, by rw [heap_alloc_new]; rfl⟩
  case round =>
    obtain ⟨k, hk, rfl, rfl, hb, hrow⟩ := hrel
    have Hr : Hid _ := hrow
    have Hb : Hid _ := hb
    clear hrow hb
    by_cases hlt : k < 8
    · have hx0 := UV.un_lo (x >>> (8 * k))
      have hc := Own.row_frozen Hr.out (7 - k)
      have hd := Own.row_cell Hr.out (7 - k) (by omega)
      have hv : f8 x k (7 - k) = .int .u8 0 := by unfold f8; rw [if_neg (by omega)]
      rw [hv] at hd
      clear hv
      go_wp2
      refine ⟨⟨k + 1, by omega, by go_num, ?_, Hb.out.setCell (by simp) _, ?_⟩, by simp [intOf]; omega⟩
      · rw [quo256, shr_shr]
      · rw [Own.row_store Hr.out, Own.mkRow_congr (f8_step x k hlt)]
    · obtain rfl : k = 8 := by omega
      have HC : Hid (∀ j (h : j < (Sha.bytesOf x).length), wr.cell? ⟨w.heap.size, 0 + j, none⟩ = some (.int .u8 ((Sha.bytesOf x)[j].toNat : Int))) := fun j hj => by
        have hj' : j < 8 := hj
        rw [Nat.zero_add, Own.row_cell Hr.out j hj', bytesOf_get]
        unfold f8
        rw [if_pos (by omega)]
      go_wp2_with (refine Own.wpList_string_at _ rfl _ 145 9 5 rfl Tryz.underlying145 Tryz.underlying5 Tryz.underlying9 w.heap.size 0 8 (Sha.bytesOf x) rfl HC.out ?_)
      go_ret
      exact ⟨rfl, Hb.out⟩
def hCell (s : Sha.St) (j : Nat) : Value := .int .u64 (un (s.list.getD j 0#64))
def kCell (j : Nat) : Value := .int .u64 (un (Sha.kAt j))
theorem u64_one (x : Int) : (Value.int .u64 x).oneCell' = true := rfl
set_option maxHeartbeats 400000 in
theorem refRoots_any (w : World) :
    Calls Tryz.prog 100 #[] w fun e w' => e = .returned (.agg (Own.mkRow 8 (hCell Sha.start))) ∧ Below w.heap.size w w' := by
  go_enter Tryz.func100, Tryz.ntmps100
  go_wp2_with (first
    | refine Own.wpList_alloc_at _ rfl 177 rfl (Own.zeros 8 (.int .u64 0)) (by kernel_rfl) ?_
    | refine Own.wpList_build_at rfl 177 _ rfl (Own.mkRow 8 (hCell Sha.start)) (by kernel_rfl) ?_
    | refine Own.wpList_store_new rfl 177 _ _ rfl (Own.zeros 8 (.int .u64 0)) (Own.mkRow 8 (hCell Sha.start)) 177 rfl rfl (by kernel_rfl) (by kernel_rfl) (Own.all_one fun _ _ => rfl) ?_)
  exact Own.ret_row Tryz.results100 rfl _ _ _ _ _ rfl (heap_alloc_new _ _) Tryz.underlying177 rfl (by kernel_rfl) ⟨rfl, (Below.refl _ _).alloc (Nat.le_refl _) _⟩
set_option maxHeartbeats 400000 in
theorem refCubes_any (w : World) :
    Calls Tryz.prog 101 #[] w fun e w' => e = .returned (.agg (Own.mkRow 80 kCell)) ∧ Below w.heap.size w w' := by
  go_enter Tryz.func101, Tryz.ntmps101
  go_wp2_with (first
    | refine Own.wpList_alloc_at _ rfl 179 rfl (Own.zeros 80 (.int .u64 0)) (by kernel_rfl) ?_
    | refine Own.wpList_build_at rfl 179 _ rfl (Own.mkRow 80 kCell) (by kernel_rfl) ?_
    | refine Own.wpList_store_new rfl 179 _ _ rfl (Own.zeros 80 (.int .u64 0)) (Own.mkRow 80 kCell) 179 rfl rfl (by kernel_rfl) (by kernel_rfl) (Own.all_one fun _ _ => rfl) ?_)
  exact Own.ret_row Tryz.results101 rfl _ _ _ _ _ rfl (heap_alloc_new _ _) Tryz.underlying179 rfl (by kernel_rfl) ⟨rfl, (Below.refl _ _).alloc (Nat.le_refl _) _⟩
end Go.Proofs.YtbojijefenfbgaaGreatDoor
