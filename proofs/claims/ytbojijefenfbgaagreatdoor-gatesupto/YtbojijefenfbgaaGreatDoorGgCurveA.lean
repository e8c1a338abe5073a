/- Walks of the program's curve: points; affine, Neg, fromQuotients. -/
import Derived.Test.YtbojijefenfbgaaGreatDoorGgShort
import Derived.Test.YtbojijefenfbgaaGreatDoorGgFieldH
namespace Go.Proofs.YtbojijefenfbgaaGreatDoor
open Go.RowKit
namespace Cw
open Fw
theorem pw_ex : ∃ f : Ed.E → Array Value, ∀ e, f e = fw e.x ++ fw e.y ++ fw e.z ++ fw e.t := ⟨_, fun _ => rfl⟩
noncomputable def pw : Ed.E → Array Value := Classical.choose pw_ex
theorem pw_def (e : Ed.E) : pw e = fw e.x ++ fw e.y ++ fw e.z ++ fw e.t := Classical.choose_spec pw_ex e
theorem fw_four (x : Ed.F) : ∃ a b c d : Value, fw x = #[a, b, c, d] ∧ a.oneCell' = true ∧ b.oneCell' = true ∧ c.oneCell' = true ∧ d.oneCell' = true := by
 rw [fw_def]
 exact ⟨_, _, _, _, rfl, rfl, rfl, rfl, rfl⟩
theorem pw_size (e : Ed.E) : (pw e).size = 16 := by rw [pw_def]; simp [fw_size]
theorem pw_one (e : Ed.E) : (pw e).all (·.oneCell') = true := by
 rw [pw_def]
 simp only [Array.all_append, fw_one, Bool.and_self]
theorem built_pt (x y z t : Ed.F) : Tryz.prog.built 163 [(0, .agg (fw x)), (1, .agg (fw y)), (2, .agg (fw z)), (3, .agg (fw t))] = some (pw ⟨x, y, z, t⟩) := by
 rw [pw_def]
 obtain ⟨a0, a1, a2, a3, ha, _⟩ := fw_four x
 obtain ⟨b0, b1, b2, b3, hb, _⟩ := fw_four y
 obtain ⟨c0, c1, c2, c3, hc, _⟩ := fw_four z
 obtain ⟨d0, d1, d2, d3, hd, _⟩ := fw_four t
 simp only [ha, hb, hc, hd]
 kernel_rfl
def ptZero : Array Value := #[.int .u64 0, .int .u64 0, .int .u64 0, .int .u64 0, .int .u64 0, .int .u64 0, .int .u64 0, .int .u64 0, .int .u64 0, .int .u64 0, .int .u64 0, .int .u64 0, .int .u64 0, .int .u64 0, .int .u64 0, .int .u64 0]
def e0 : Ed.E := ⟨0, 0, 0, 0⟩
theorem pw_zero : pw e0 = ptZero := by rw [pw_def]; simp only [e0, fw_zero]; rfl
def PAt (w : World) (b : Nat) (e : Ed.E) : Prop := w.heap[b]? = some (.cells (pw e) 163 (0, 0))
theorem PAt.lt {w : World} {b : Nat} {e : Ed.E} (h : PAt w b e) : b < w.heap.size := (Array.getElem?_eq_some_iff.1 h).1
theorem PAt.below {w w' : World} {b : Nat} {e : Ed.E} (h : PAt w b e) {k : Nat} (hb : Below k w w') (hk : b < k) : PAt w' b e := (hb.block b hk).trans h
theorem PAt.zero {w : World} {b : Nat} (h : w.heap[b]? = some (.cells ptZero 163 (0, 0))) : PAt w b e0 := by unfold PAt; rw [pw_zero]; exact h
theorem PAt.setRow {w : World} {b : Nat} {e : Ed.E} (h : PAt w b e) (f : Ed.E) : PAt (w.setRow b (pw f)) b f := setRow_heap _ _ _ _ _ _ h
theorem PAt.range {w : World} {b : Nat} {e : Ed.E} (h : PAt w b e) (off : Nat) (v : Ed.F) (hv : ∀ j, j < 4 → (pw e)[off + j]? = (fw v)[j]?) : w.rangeAt b off (fw v).toList := fun j u hu => by
 have hj : j < 4 := by
  have := (List.getElem?_eq_some_iff.1 hu).1
  rw [Array.length_toList, fw_size] at this
  exact this
 rw [cell_of_row w b (off + j) _ _ _ h, hv j hj]
 simpa using hu
theorem PAt.x {w : World} {b : Nat} {e : Ed.E} (h : PAt w b e) : w.rangeAt b 0 (fw e.x).toList := h.range 0 e.x fun j hj => by
 rw [pw_def, Array.getElem?_append_left (by simp [fw_size]; omega), Array.getElem?_append_left (by simp [fw_size]; omega), Array.getElem?_append_left (by simp [fw_size]; omega)]
 congr 1; omega
theorem PAt.y {w : World} {b : Nat} {e : Ed.E} (h : PAt w b e) : w.rangeAt b 4 (fw e.y).toList := h.range 4 e.y fun j hj => by
 rw [pw_def, Array.getElem?_append_left (by simp [fw_size]; omega), Array.getElem?_append_left (by simp [fw_size]; omega), Array.getElem?_append_right (by simp [fw_size])]
 congr 1; simp [fw_size]
theorem PAt.z {w : World} {b : Nat} {e : Ed.E} (h : PAt w b e) : w.rangeAt b 8 (fw e.z).toList := h.range 8 e.z fun j hj => by
 rw [pw_def, Array.getElem?_append_left (by simp [fw_size]; omega), Array.getElem?_append_right (by simp [fw_size])]
 congr 1; simp [fw_size]
theorem PAt.t {w : World} {b : Nat} {e : Ed.E} (h : PAt w b e) : w.rangeAt b 12 (fw e.t).toList := h.range 12 e.t fun j hj => by
 rw [pw_def, Array.getElem?_append_right (by simp [fw_size])]
 congr 1; simp [fw_size]
theorem y_fld {W : World} {K : Act → Prop} {l : List Oper} {o : Oper} {a : Act} (hg : o.guard = none) (x : Operand) (ho : o.op = .load 161 x) (b off : Nat) (v : Ed.F) (hx : a.eval x = .pointer (some ⟨b, off, none⟩)) (hb : b < W.heap.size) (hr : W.rangeAt b off (fw v).toList)
  (h : Qt.Lex Tryz.prog W K l (a.put o.dst (.agg (fw v)))) : Qt.Lex Tryz.prog W K (o :: l) a :=
 Qt.y_mid hg 161 x ho b off hx (fw v).toList _ hb hr Tryz.underlying161 rfl (by rw [Array.length_toList, fw_size]; kernel_rfl) h
theorem y_build {W : World} {K : Act → Prop} {l : List Oper} {o : Oper} {a : Act} (hg : o.guard = none) (parts : Array (Nat × Operand)) (ho : o.op = .build 163 parts) (e : Ed.E) (hf : (parts.map fun (i, x) => (i, a.eval x)).toList = [(0, .agg (fw e.x)), (1, .agg (fw e.y)), (2, .agg (fw e.z)), (3, .agg (fw e.t))])
  (h : Qt.Lex Tryz.prog W K l (a.put o.dst (.agg (pw e)))) : Qt.Lex Tryz.prog W K (o :: l) a := by
 refine Qt.y_val hg (.agg (pw e)) (fun w' _ => ?_) h
 have hr := run_build (P := Tryz.prog) w' 163 (parts.map fun (i, x) => (i, a.eval x)) (pw e) (by rw [hf]; exact built_pt e.x e.y e.z e.t)
 unfold execOp
 simp only [ho, Sem.run_bind, Sem.run_pure, Result.andThen_ok, hr]
theorem store_p {ops : Array Oper} {rest : List Oper} {o : Oper} {a : Act} {w : World} {Q : Exit → Act → World → Prop} (hg : o.guard = none) (x y : Operand) (ho : o.op = .store 163 x y) (b : Nat) (v old : Ed.E) (hx : a.eval x = .pointer (some ⟨b, 0, none⟩)) (hy : a.eval y = .agg (pw v)) (hb : PAt w b old)
  (h : wpList Tryz.prog ops Q rest (a.put o.dst undef) (w.setRow b (pw v))) : wpList Tryz.prog ops Q (o :: rest) a w :=
 wpList_store_row hg 163 x y ho b (pw v) hx hy 163 (pw old) hb (by rw [pw_size]; kernel_rfl) ((pw_size _).trans (pw_size _).symm) (pw_one v) h
theorem load_p {ops : Array Oper} {rest : List Oper} {o : Oper} {a : Act} {w : World} {Q : Exit → Act → World → Prop} (hg : o.guard = none) (x : Operand) (ho : o.op = .load 163 x) (b : Nat) (v : Ed.E) (hx : a.eval x = .pointer (some ⟨b, 0, none⟩)) (hb : PAt w b v)
  (h : wpList Tryz.prog ops Q rest (a.put o.dst (.agg (pw v))) w) : wpList Tryz.prog ops Q (o :: rest) a w :=
 wpList_load_row hg 163 x ho b hx 163 (pw v) (0, 0) _ hb Tryz.underlying163 rfl (by rw [pw_size]; kernel_rfl) h
theorem y_pt {W : World} {K : Act → Prop} {l : List Oper} {o : Oper} {a : Act} (hg : o.guard = none) (x : Operand) (ho : o.op = .load 163 x) (b : Nat) (v : Ed.E) (hx : a.eval x = .pointer (some ⟨b, 0, none⟩)) (hb : PAt W b v)
  (h : Qt.Lex Tryz.prog W K l (a.put o.dst (.agg (pw v)))) : Qt.Lex Tryz.prog W K (o :: l) a :=
 Qt.y_row hg 163 x ho b hx 163 (pw v) (0, 0) _ hb Tryz.underlying163 rfl (by rw [pw_size]; kernel_rfl) h
theorem ret_p {fn : Func} {p : Tmp} (h : fn.results = #[.cell p 163]) {post : Ending → World → Prop} {a : Act} {w : World} (hd : a.defers = []) (g : Nat) (v : Ed.E) (hp : a.tmps.getD p undef = .pointer (some ⟨g, 0, none⟩)) (hg : PAt w g v) (hpost : post (.returned (.agg (pw v))) w) :
  bodyPost Tryz.prog fn post .ret a w :=
 Own.ret_row h hd g 163 (pw v) (0, 0) _ hp hg Tryz.underlying163 rfl (by rw [pw_size]; kernel_rfl) hpost
noncomputable abbrev V2 (w : World) (e : Ed.E) : World := (w.alloc (.cells (pw e) 163)).alloc (.cells ptZero 163)
theorem V2_a (w : World) (e : Ed.E) : PAt (V2 w e) w.heap.size e := PAt.below (alloc_at w _ _ rfl) ((Below.refl (w.heap.size + 1) _).alloc (by simp) _) (by omega)
theorem V2_r (w : World) (e : Ed.E) : PAt (V2 w e) (w.heap.size + 1) e0 := .zero (alloc_at _ _ _ (by simp))
theorem V2_b (w : World) (e : Ed.E) : Below w.heap.size w (V2 w e) := ((Below.refl _ _).alloc (Nat.le_refl _) _).alloc (by simp) _
noncomputable abbrev U3 (w : World) (x y : Ed.F) : World := ((w.alloc (.cells (fw x) 161)).alloc (.cells (fw y) 161)).alloc (.cells ptZero 163)
theorem U3_x (w : World) (x y : Ed.F) : WAt (U3 w x y) w.heap.size x := WAt.below (alloc_at w _ _ rfl) (((Below.refl (w.heap.size + 1) _).alloc (by simp) _).alloc (by simp) _) (by omega)
theorem U3_y (w : World) (x y : Ed.F) : WAt (U3 w x y) (w.heap.size + 1) y := WAt.below (alloc_at _ _ _ (by simp)) ((Below.refl (w.heap.size + 2) _).alloc (by simp) _) (by omega)
theorem U3_r (w : World) (x y : Ed.F) : PAt (U3 w x y) (w.heap.size + 1 + 1) e0 := .zero (alloc_at _ _ _ (by simp))
theorem U3_b (w : World) (x y : Ed.F) : Below w.heap.size w (U3 w x y) := (((Below.refl _ _).alloc (Nat.le_refl _) _).alloc (by simp) _).alloc (by simp; omega) _
set_option maxHeartbeats 400000 in
theorem affine_f (x y : Ed.F) (w : World) :
  Calls Tryz.prog 156 #[.agg (fw x), .agg (fw y)] w fun e w' => e = .returned (.agg (pw (Ed.aff x y))) ∧ Below w.heap.size w w' := by
 go_enter Tryz.func156, Tryz.ntmps156
 go_wp2_with fail
 refine Qt.wp_tail 7 (by kernel_rfl) (by kernel_rfl) ?_
 refine y_word rfl _ rfl (w.heap.size) (x) rfl (U3_x w x y) ?_
 refine y_word rfl _ rfl (w.heap.size + 1) (y) rfl (U3_y w x y) ?_
 refine Qt.y_call rfl 227 #[] (.agg (fw 1)) (fun _ => by kernel_rfl) (fun w' _ => one_f w') ?_
 refine y_word rfl _ rfl (w.heap.size) (x) rfl (U3_x w x y) ?_
 refine y_word rfl _ rfl (w.heap.size + 1) (y) rfl (U3_y w x y) ?_
 refine Qt.y_call rfl 179 #[.agg (fw (x)), .agg (fw (y))] _ (fun _ => by kernel_rfl) (fun w' _ => mul_f (x) (y) w') ?_
 simp only [Act.put, zA, zB, zC]
 refine y_build rfl _ rfl (Ed.aff x y) (by kernel_rfl) ?_
 simp only [Act.put, zA, zB, zC]
 refine Qt.y_nil ?_
 intro w1 hb
 have HB : Hid (Below (U3 w x y).heap.size (U3 w x y) w1) := hb
 clear hb
 have HR : Hid (PAt w1 (w.heap.size + 1 + 1) e0) := (U3_r w x y).below HB.out (U3_r w x y).lt
 refine store_p rfl _ _ rfl (w.heap.size + 1 + 1) (Ed.aff x y) e0 rfl rfl HR.out ?_
 go_wp2_with fail
 exact ret_p Tryz.results156 rfl (w.heap.size + 1 + 1) (Ed.aff x y) rfl (HR.out.setRow _) ⟨rfl, below_store (U3_b w x y) HB.out _ (by omega) _⟩
set_option maxHeartbeats 400000 in
theorem neg_p (p : Ed.E) (w : World) :
  Calls Tryz.prog 112 #[.agg (pw p)] w fun e w' => e = .returned (.agg (pw (Ed.eneg p))) ∧ Below w.heap.size w w' := by
 have HA := V2_a w p
 go_enter Tryz.func112, Tryz.ntmps112
 go_wp2_with fail
 refine Qt.wp_tail 11 (by kernel_rfl) (by kernel_rfl) ?_
 refine Qt.y_val rfl (.pointer (some ⟨w.heap.size, 0, none⟩)) (fun _ _ => by kernel_rfl) ?_
 refine y_fld rfl _ rfl w.heap.size 0 p.x rfl HA.lt HA.x ?_
 refine Qt.y_call rfl 177 #[.agg (fw (p.x))] _ (fun _ => by kernel_rfl) (fun w' _ => neg_f (p.x) w') ?_
 refine Qt.y_val rfl (.pointer (some ⟨w.heap.size, 4, none⟩)) (fun _ _ => by kernel_rfl) ?_
 refine y_fld rfl _ rfl w.heap.size 4 p.y rfl HA.lt HA.y ?_
 simp only [Act.put, zA, zB, zC]
 refine Qt.y_val rfl (.pointer (some ⟨w.heap.size, 8, none⟩)) (fun _ _ => by kernel_rfl) ?_
 refine y_fld rfl _ rfl w.heap.size 8 p.z rfl HA.lt HA.z ?_
 refine Qt.y_val rfl (.pointer (some ⟨w.heap.size, 12, none⟩)) (fun _ _ => by kernel_rfl) ?_
 refine y_fld rfl _ rfl w.heap.size 12 p.t rfl HA.lt HA.t ?_
 refine Qt.y_call rfl 177 #[.agg (fw (p.t))] _ (fun _ => by kernel_rfl) (fun w' _ => neg_f (p.t) w') ?_
 simp only [Act.put, zA, zB, zC]
 refine y_build rfl _ rfl (Ed.eneg p) (by kernel_rfl) ?_
 simp only [Act.put, zA, zB, zC]
 refine Qt.y_nil ?_
 intro w1 hb
 have HB : Hid (Below (V2 w p).heap.size (V2 w p) w1) := hb
 clear hb
 have HR : Hid (PAt w1 (w.heap.size + 1) e0) := (V2_r w p).below HB.out (V2_r w p).lt
 refine store_p rfl _ _ rfl (w.heap.size + 1) (Ed.eneg p) e0 rfl rfl HR.out ?_
 go_wp2_with fail
 exact ret_p Tryz.results112 rfl (w.heap.size + 1) (Ed.eneg p) rfl (HR.out.setRow _) ⟨rfl, below_store (V2_b w p) HB.out _ (by omega) _⟩
end Cw
end Go.Proofs.YtbojijefenfbgaaGreatDoor
