/- Walks of the program's field over F: Square, Neg, squares, join, power, Inverse, Root. -/
import Derived.Test.YtbojijefenfbgaaGreatDoorTkRoots
import Derived.Test.YtbojijefenfbgaaGreatDoorTkQTail
namespace Go.Proofs.YtbojijefenfbgaaGreatDoor
open Go.RowKit
namespace Fw
open Bt

/-- A word lies in a block. -/
def WAt (w : World) (b : Nat) (x : Ed.F) : Prop := w.heap[b]? = some (.cells (fw x) 161 (0, 0))
theorem WAt.lt {w : World} {b : Nat} {x : Ed.F} (h : WAt w b x) : b < w.heap.size := (Array.getElem?_eq_some_iff.1 h).1
theorem WAt.below {w w' : World} {b : Nat} {x : Ed.F} (h : WAt w b x) {k : Nat} (hb : Below k w w') (hk : b < k) : WAt w' b x := (hb.block b hk).trans h
theorem fw_zero : fw 0 = wordZero := by rw [fw_def]; rfl
theorem WAt.zero {w : World} {b : Nat} (h : w.heap[b]? = some (.cells wordZero 161 (0, 0))) : WAt w b 0 := by unfold WAt; rw [fw_zero]; exact h
theorem sub_0 (x : Ed.F) (w : World) :
    Calls Tryz.prog 226 #[.agg #[.int .u64 0, .int .u64 0, .int .u64 0, .int .u64 0], .agg (fw x)] w fun e w' => e = .returned (.agg (fw (0 - x))) ∧ Below w.heap.size w w' := by
  have h := sub_f 0 x w
  rwa [fw_zero] at h
theorem alloc_at (w : World) (o : Obj) (b : Nat) (hb : b = w.heap.size) : (w.alloc o).heap[b]? = some o := by rw [hb]; exact heap_alloc_new w o

theorem WAt.setRow {w : World} {b : Nat} {x : Ed.F} (h : WAt w b x) (y : Ed.F) : WAt (w.setRow b (fw y)) b y := setRow_heap _ _ _ _ _ _ h
/-- Blocks behind w: parameters, and the result's nought. -/
noncomputable abbrev W2 (w : World) (x : Ed.F) : World := (w.alloc (.cells (fw x) 161)).alloc (.cells wordZero 161)
noncomputable abbrev W3 (w : World) (x y : Ed.F) : World := ((w.alloc (.cells (fw x) 161)).alloc (.cells (fw y) 161)).alloc (.cells wordZero 161)
theorem W2_a (w : World) (x : Ed.F) : WAt (W2 w x) w.heap.size x := WAt.below (alloc_at w _ _ rfl) ((Below.refl (w.heap.size + 1) _).alloc (by simp) _) (by omega)
theorem W2_r (w : World) (x : Ed.F) : WAt (W2 w x) (w.heap.size + 1) 0 := .zero (alloc_at _ _ _ (by simp))
theorem W2_b (w : World) (x : Ed.F) : Below w.heap.size w (W2 w x) := ((Below.refl _ _).alloc (Nat.le_refl _) _).alloc (by simp) _
theorem W3_a (w : World) (x y : Ed.F) : WAt (W3 w x y) w.heap.size x := WAt.below (alloc_at w _ _ rfl) (((Below.refl (w.heap.size + 1) _).alloc (by simp) _).alloc (by simp) _) (by omega)
theorem W3_c (w : World) (x y : Ed.F) : WAt (W3 w x y) (w.heap.size + 1) y := WAt.below (alloc_at _ _ _ (by simp)) ((Below.refl (w.heap.size + 2) _).alloc (by simp) _) (by omega)
theorem W3_r (w : World) (x y : Ed.F) : WAt (W3 w x y) (w.heap.size + 1 + 1) 0 := .zero (alloc_at _ _ _ (by simp))
theorem W3_b (w : World) (x y : Ed.F) : Below w.heap.size w (W3 w x y) := (((Below.refl _ _).alloc (Nat.le_refl _) _).alloc (by simp) _).alloc (by simp; omega) _
/-- What is asked of a result's block behind a call, and what stands behind the store. -/
theorem below_store {w W w1 : World} (h : Below w.heap.size w W) (h1 : Below W.heap.size W w1) (b : Nat) (hb : w.heap.size ≤ b) (cs : Array Value) : Below w.heap.size w (w1.setRow b cs) :=
  (h.trans (h1.mono h.size)).trans ((below_setRow w1 b cs).mono hb)

theorem load_w {ops : Array Oper} {rest : List Oper} {o : Oper} {a : Act} {w : World} {Q : Exit → Act → World → Prop} (hg : o.guard = none) (x : Operand) (ho : o.op = .load 161 x) (b : Nat) (v : Ed.F) (hx : a.eval x = .pointer (some ⟨b, 0, none⟩)) (hb : WAt w b v)
    (h : wpList Tryz.prog ops Q rest (a.put o.dst (.agg (fw v))) w) : wpList Tryz.prog ops Q (o :: rest) a w :=
  wpList_load_row hg 161 x ho b hx 161 (fw v) (0, 0) _ hb Tryz.underlying161 rfl (by rw [fw_size]; kernel_rfl) h
theorem store_w {ops : Array Oper} {rest : List Oper} {o : Oper} {a : Act} {w : World} {Q : Exit → Act → World → Prop} (hg : o.guard = none) (x y : Operand) (ho : o.op = .store 161 x y) (b : Nat) (v old : Ed.F) (hx : a.eval x = .pointer (some ⟨b, 0, none⟩)) (hy : a.eval y = .agg (fw v)) (hb : WAt w b old)
    (h : wpList Tryz.prog ops Q rest (a.put o.dst undef) (w.setRow b (fw v))) : wpList Tryz.prog ops Q (o :: rest) a w :=
  wpList_store_row hg 161 x y ho b (fw v) hx hy 161 (fw old) hb (by rw [fw_size]; kernel_rfl) ((fw_size _).trans (fw_size _).symm) (fw_one v) h
theorem ret_w {fn : Func} {p : Tmp} (h : fn.results = #[.cell p 161]) {post : Ending → World → Prop} {a : Act} {w : World} (hd : a.defers = []) (g : Nat) (v : Ed.F) (hp : a.tmps.getD p undef = .pointer (some ⟨g, 0, none⟩)) (hg : WAt w g v) (hpost : post (.returned (.agg (fw v))) w) :
    bodyPost Tryz.prog fn post .ret a w :=
  Own.ret_row h hd g 161 (fw v) (0, 0) _ hp hg Tryz.underlying161 rfl (by rw [fw_size]; kernel_rfl) hpost
theorem q_word {ops : Array Oper} {w : World} {Q : Act → Prop} {rest : List Oper} {o : Oper} {a : Act} (hg : o.guard = none) (x : Operand) (ho : o.op = .load 161 x) (b : Nat) (v : Ed.F) (hx : a.eval x = .pointer (some ⟨b, 0, none⟩)) (hb : WAt w b v)
    (h : wpQuiet Tryz.prog ops (Qt.BW w) Q rest (a.put o.dst (.agg (fw v)))) : wpQuiet Tryz.prog ops (Qt.BW w) Q (o :: rest) a :=
  Qt.q_row hg 161 x ho b hx 161 (fw v) (0, 0) _ hb Tryz.underlying161 rfl (by rw [fw_size]; kernel_rfl) h

set_option maxHeartbeats 400000 in
theorem square_f (x : Ed.F) (w : World) :
    Calls Tryz.prog 224 #[.agg (fw x)] w fun e w' => e = .returned (.agg (fw (x * x))) ∧ Below w.heap.size w w' := by
  go_enter Tryz.func224, Tryz.ntmps224
  go_wp2_with (refine load_w rfl _ rfl w.heap.size x rfl (W2_a w x) ?_)
  refine (mul_f x x _).mono ?_
  rintro e w1 ⟨rfl, hb⟩
  have HB : Hid (Below (W2 w x).heap.size (W2 w x) w1) := hb
  clear hb
  have HR : Hid (WAt w1 (w.heap.size + 1) 0) := (W2_r w x).below HB.out (W2_r w x).lt
  go_wp2_with (refine store_w rfl _ _ rfl (w.heap.size + 1) (x * x) 0 rfl rfl HR.out ?_)
  exact ret_w Tryz.results224 rfl (w.heap.size + 1) (x * x) rfl (HR.out.setRow _) ⟨rfl, below_store (W2_b w x) HB.out _ (by omega) _⟩
set_option maxHeartbeats 400000 in
theorem neg_f (x : Ed.F) (w : World) :
    Calls Tryz.prog 177 #[.agg (fw x)] w fun e w' => e = .returned (.agg (fw (0 - x))) ∧ Below w.heap.size w w' := by
  go_enter Tryz.func177, Tryz.ntmps177
  go_wp2_with (refine load_w rfl _ rfl w.heap.size x rfl (W2_a w x) ?_)
  refine (sub_0 x _).mono ?_
  rintro e w1 ⟨rfl, hb⟩
  have HB : Hid (Below (W2 w x).heap.size (W2 w x) w1) := hb
  clear hb
  have HR : Hid (WAt w1 (w.heap.size + 1) 0) := (W2_r w x).below HB.out (W2_r w x).lt
  go_wp2_with (refine store_w rfl _ _ rfl (w.heap.size + 1) (0 - x) 0 rfl rfl HR.out ?_)
  exact ret_w Tryz.results177 rfl (w.heap.size + 1) (0 - x) rfl (HR.out.setRow _) ⟨rfl, below_store (W2_b w x) HB.out _ (by omega) _⟩
theorem fpow_sq (x : Ed.F) (k : Nat) : Ed.fpow x (2 ^ k) * Ed.fpow x (2 ^ k) = Ed.fpow x (2 ^ (k + 1)) := by
  rw [← Ed.fpow_add, Nat.pow_succ]
  congr 1
  omega
theorem WAt.other {w : World} {b c : Nat} {x : Ed.F} (h : WAt w b x) (hne : b ≠ c) (cs : Array Value) : WAt (w.setRow c cs) b x := by
  unfold WAt at *
  rw [← h]
  show (Array.modify _ _ _)[b]? = _
  rw [Array.getElem?_modify, if_neg (Ne.symm hne)]
set_option maxHeartbeats 400000 in
theorem squares_f (x : Ed.F) (n : Nat) (hn : n ≤ 1000) (w : World) :
    Calls Tryz.prog 241 #[.agg (fw x), .int .i64 n] w fun e w' => e = .returned (.agg (fw (Ed.fpow x (2 ^ n)))) ∧ Below w.heap.size w w' := by
  go_enter Tryz.func241, Tryz.ntmps241
  go_wp2_with fail
  go_loopw [6] (fun i wq => ∃ k : Nat, k ≤ n ∧ i = .int .i64 (k : Int) ∧ WAt wq w.heap.size (Ed.fpow x (2 ^ k)) ∧ WAt wq (w.heap.size + 1) 0 ∧ Below w.heap.size w wq) (fun i _ => n - (intOf i).toNat)
  case atStart => exact ⟨0, by omega, rfl, by rw [Nat.pow_zero, Ed.fpow_one]; exact W2_a w x, W2_r w x, W2_b w x⟩
  case round =>
    rename World => wa
    obtain ⟨k, hk, rfl, ha, hr, hb⟩ := hrel
    have HA : Hid (WAt wa w.heap.size (Ed.fpow x (2 ^ k))) := ha
    have HR : Hid (WAt wa (w.heap.size + 1) 0) := hr
    have HB : Hid (Below w.heap.size w wa) := hb
    clear ha hr hb
    by_cases hkn : k < n
    · go_wp2_with (first
        | (go_at_call 224; refine (square_f (Ed.fpow x (2 ^ k)) _).mono ?_; rintro e w2 ⟨rfl, hb2⟩; rw [fpow_sq] at *; have HB2 : Hid (Below wa.heap.size wa w2) := hb2; clear hb2)
        | refine load_w rfl _ rfl w.heap.size (Ed.fpow x (2 ^ k)) rfl HA.out ?_
        | refine store_w rfl _ _ rfl w.heap.size (Ed.fpow x (2 ^ (k + 1))) (Ed.fpow x (2 ^ k)) rfl rfl (HA.out.below HB2.out HA.out.lt) ?_)
      exact ⟨⟨k + 1, by omega, by go_num, (HA.out.below HB2.out HA.out.lt).setRow _, (HR.out.below HB2.out HR.out.lt).other (by omega) _, below_store HB.out HB2.out _ (Nat.le_refl _) _⟩, by simp [intOf]; omega⟩
    · obtain rfl : k = n := by omega
      go_wp2_with (first
        | refine load_w rfl _ rfl w.heap.size (Ed.fpow x (2 ^ k)) rfl HA.out ?_
        | refine store_w rfl _ _ rfl (w.heap.size + 1) (Ed.fpow x (2 ^ k)) 0 rfl rfl HR.out ?_)
      exact ret_w Tryz.results241 rfl (w.heap.size + 1) (Ed.fpow x (2 ^ k)) rfl (HR.out.setRow _) ⟨rfl, HB.out.trans ((below_setRow _ _ _).mono (by omega))⟩
set_option maxHeartbeats 400000 in
theorem join_f (x y : Ed.F) (n : Nat) (hn : n ≤ 1000) (w : World) :
    Calls Tryz.prog 273 #[.agg (fw x), .int .i64 n, .agg (fw y)] w fun e w' => e = .returned (.agg (fw (Ed.fpow x (2 ^ n) * y))) ∧ Below w.heap.size w w' := by
  go_enter Tryz.func273, Tryz.ntmps273
  go_wp2_with fail
  refine Qt.wp_region_below_tail 5 (by kernel_rfl) (by kernel_rfl) ?_
  refine q_word rfl _ rfl w.heap.size x rfl (W3_a w x y) ?_
  refine Qt.q_val rfl _ (fun _ _ => rfl) ?_
  refine Qt.q_call rfl 241 #[.agg (fw x), .int .i64 n] _ (fun _ => by kernel_rfl) (fun w' _ => squares_f x n hn w') ?_
  refine q_word rfl _ rfl (w.heap.size + 1) y rfl (W3_c w x y) ?_
  refine Qt.q_call rfl 179 #[.agg (fw (Ed.fpow x (2 ^ n))), .agg (fw y)] _ (fun _ => by kernel_rfl) (fun w' _ => mul_f _ y w') ?_
  refine wpQuiet_nil ?_
  intro w1 hb
  have HB : Hid (Below (W3 w x y).heap.size (W3 w x y) w1) := hb
  clear hb
  have HR : Hid (WAt w1 (w.heap.size + 1 + 1) 0) := (W3_r w x y).below HB.out (W3_r w x y).lt
  refine store_w rfl _ _ rfl (w.heap.size + 1 + 1) (Ed.fpow x (2 ^ n) * y) 0 rfl rfl HR.out ?_
  go_wp2_with fail
  exact ret_w Tryz.results273 rfl (w.heap.size + 1 + 1) (Ed.fpow x (2 ^ n) * y) rfl (HR.out.setRow _) ⟨rfl, below_store (W3_b w x y) HB.out _ (by omega) _⟩
end Fw
end Go.Proofs.YtbojijefenfbgaaGreatDoor
