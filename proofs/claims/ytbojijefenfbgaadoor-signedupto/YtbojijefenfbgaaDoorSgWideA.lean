/- Walks of the program's wide numbers: Sub, Add, Below, Less. -/
/- Walks of the program's field: FromNumber, Number, Odd. -/
import Derived.Test.YtbojijefenfbgaaDoorSgCurveE
namespace Go.Proofs.YtbojijefenfbgaaDoor
open Go.RowKit
namespace Ww
open Fw Bt
attribute [local go_sem] run_Add64_xy0 run_Add64_19 run_Add64_0c run_Sub64_xy0 run_Sub64_0c
attribute [local go_sem] UV.u_add UV.u_mul UV.u_sub UV.u_xor UV.u_and UV.u_or UV.u_shr UV.u_shl UV.u_not UV.u_notm UV.u_wrap_un run_Add64 run_Sub64
def subW (a b : Q) : Q := ⟨d0 a b, d1 a b, d2 a b, d3 a b⟩
def k4 (a b : Q) : Bool := carry a.a3 b.a3 (k3 a b)
theorem subW_num (a b : Q) : (subW a b).num + b.num = a.num + 115792089237316195423570985008687907853269984665640564039457584007913129639936 * (bv (m4 a b)).toNat := by
  have v0 : (d0 a b).toNat + b.a0.toNat + 0 = a.a0.toNat + 18446744073709551616 * (bv (m1 a b)).toNat := sub_val a.a0 b.a0 false
  have v1 : (d1 a b).toNat + b.a1.toNat + (bv (m1 a b)).toNat = a.a1.toNat + 18446744073709551616 * (bv (m2 a b)).toNat := sub_val a.a1 b.a1 (m1 a b)
  have v2 : (d2 a b).toNat + b.a2.toNat + (bv (m2 a b)).toNat = a.a2.toNat + 18446744073709551616 * (bv (m3 a b)).toNat := sub_val a.a2 b.a2 (m2 a b)
  have v3 : (d3 a b).toNat + b.a3.toNat + (bv (m3 a b)).toNat = a.a3.toNat + 18446744073709551616 * (bv (m4 a b)).toNat := sub_val a.a3 b.a3 (m3 a b)
  exact sub_chain _ _ _ _ _ _ _ _ _ _ _ _ _ _ _ _ _ v0 v1 v2 v3
theorem addW_num (a b : Q) : (addQ a b).num + 115792089237316195423570985008687907853269984665640564039457584007913129639936 * (bv (k4 a b)).toNat = a.num + b.num := by
  have v0 : (a.a0 + b.a0 + bv false).toNat + 18446744073709551616 * (bv (k1 a b)).toNat = a.a0.toNat + b.a0.toNat + 0 := add_val a.a0 b.a0 false
  have v1 : (a.a1 + b.a1 + bv (k1 a b)).toNat + 18446744073709551616 * (bv (k2 a b)).toNat = a.a1.toNat + b.a1.toNat + (bv (k1 a b)).toNat := add_val a.a1 b.a1 (k1 a b)
  have v2 : (a.a2 + b.a2 + bv (k2 a b)).toNat + 18446744073709551616 * (bv (k3 a b)).toNat = a.a2.toNat + b.a2.toNat + (bv (k2 a b)).toNat := add_val a.a2 b.a2 (k2 a b)
  have v3 : (a.a3 + b.a3 + bv (k3 a b)).toNat + 18446744073709551616 * (bv (k4 a b)).toNat = a.a3.toNat + b.a3.toNat + (bv (k3 a b)).toNat := add_val a.a3 b.a3 (k3 a b)
  exact add_chain _ _ _ _ _ _ _ _ _ _ _ _ _ _ _ _ _ v0 v1 v2 v3
theorem borrow_iff (a b : Q) : m4 a b = decide (a.num < b.num) := by
  have h := subW_num a b
  have h1 := num_lt (subW a b)
  have h2 := num_lt a
  have h3 := num_lt b
  cases hm : m4 a b with
  | true =>
    rw [hm, show (bv true).toNat = 1 from rfl] at h
    exact (decide_eq_true (by omega)).symm
  | false =>
    rw [hm, show (bv false).toNat = 0 from rfl] at h
    exact (decide_eq_false (by omega)).symm
/-- A row and a value returned. -/
theorem ret_rv {P : Program} {fn : Func} {p q : Tmp} {ty : TypeId} (h : fn.results = #[.cell p ty, .tmp q]) {post : Ending → World → Prop} {a : Act} {w : World} (hd : a.defers = []) (g : Nat) (t : TypeId) (cs : Array Value) (fr : Nat × Nat) (d : TypeDesc) (u : Value) (hp : a.tmps.getD p undef = .pointer (some ⟨g, 0, none⟩)) (hq : a.tmps.getD q undef = u) (hg : w.heap[g]? = some (.cells cs t fr))
    (hu : P.underlying ty = some d) (hr : (match d with | .struct _ | .array _ _ => true | _ => false) = true) (hi : (P.info? ty).map (·.size) = some cs.size) (hpost : post (.returned (.tuple #[.agg cs, u])) w) :
    bodyPost P fn post .ret a w := by
  refine bodyPost_ret (v := .tuple #[.agg cs, u]) ?_ hd hpost
  have hl := run_loadVar_row (P := P) w g t ty cs fr d hg hu hr hi
  have hp' : a.tmps[p]?.getD undef = .pointer (some ⟨g, 0, none⟩) := by simpa using hp
  have hq' : a.tmps[q]?.getD undef = u := by simpa using hq
  simp [results, h, hp', hq', asAddr, hl]
/-- Four blocks, the third told. -/
theorem third (w : World) (o1 o2 o3 o4 : Obj) : ((((w.alloc o1).alloc o2).alloc o3).alloc o4).heap[w.heap.size + 1 + 1]? = some o3 :=
  (((Below.refl (w.heap.size + 3) _).alloc (by simp) o4).block _ (by omega)).trans (alloc_at _ _ _ (by simp))
theorem four_b (w : World) (o1 o2 o3 o4 : Obj) : Below w.heap.size w ((((w.alloc o1).alloc o2).alloc o3).alloc o4) := ((((Below.refl _ _).alloc (Nat.le_refl _) _).alloc (by simp) _).alloc (by simp; omega) _).alloc (by simp; omega) _
set_option maxRecDepth 100000 in
set_option maxHeartbeats 2000000 in
theorem wsub_f (a b : Q) (w : World) : Calls Tryd.prog 74 #[.agg a.cells, .agg b.cells] w fun e w' => e = .returned (.tuple #[.agg (subW a b).cells, .int .u64 (un (bv (m4 a b)))]) ∧ Below w.heap.size w w' := by
  unfold Q.cells
  go_enter Tryd.func74, Tryd.ntmps74
  go_wp2_with fail
  exact ret_rv Tryd.results74 rfl (w.heap.size + 1 + 1) 74 (subW a b).cells (0, 0) _ (.int .u64 (un (bv (m4 a b)))) rfl rfl (third w _ _ _ _) Tryd.underlying74 rfl (by kernel_rfl) ⟨rfl, four_b w _ _ _ _⟩
set_option maxRecDepth 100000 in
set_option maxHeartbeats 2000000 in
theorem wadd_f (a b : Q) (w : World) : Calls Tryd.prog 71 #[.agg a.cells, .agg b.cells] w fun e w' => e = .returned (.tuple #[.agg (addQ a b).cells, .int .u64 (un (bv (k4 a b)))]) ∧ Below w.heap.size w w' := by
  unfold Q.cells
  go_enter Tryd.func71, Tryd.ntmps71
  go_wp2_with fail
  exact ret_rv Tryd.results71 rfl (w.heap.size + 1 + 1) 74 (addQ a b).cells (0, 0) _ (.int .u64 (un (bv (k4 a b)))) rfl rfl (third w _ _ _ _) Tryd.underlying74 rfl (by kernel_rfl) ⟨rfl, four_b w _ _ _ _⟩
def NAt (w : World) (b : Nat) (q : Q) : Prop := w.heap[b]? = some (.cells q.cells 74 (0, 0))
theorem NAt.lt {w : World} {b : Nat} {q : Q} (h : NAt w b q) : b < w.heap.size := (Array.getElem?_eq_some_iff.1 h).1
theorem NAt.below {w w' : World} {b : Nat} {q : Q} (h : NAt w b q) {k : Nat} (hb : Below k w w') (hk : b < k) : NAt w' b q := (hb.block b hk).trans h
theorem NAt.setRow {w : World} {b : Nat} {q : Q} (h : NAt w b q) (r : Q) : NAt (w.setRow b r.cells) b r := setRow_heap _ _ _ _ _ _ h
theorem load_n {ops : Array Oper} {rest : List Oper} {o : Oper} {a : Act} {w : World} {Q : Exit → Act → World → Prop} (hg : o.guard = none) (x : Operand) (ho : o.op = .load 74 x) (b : Nat) (q : Fw.Q) (hx : a.eval x = .pointer (some ⟨b, 0, none⟩)) (hb : NAt w b q)
    (h : wpList Tryd.prog ops Q rest (a.put o.dst (.agg q.cells)) w) : wpList Tryd.prog ops Q (o :: rest) a w :=
  wpList_load_row hg 74 x ho b hx 74 q.cells (0, 0) _ hb Tryd.underlying74 rfl (by kernel_rfl) h
theorem store_n {ops : Array Oper} {rest : List Oper} {o : Oper} {a : Act} {w : World} {Q : Exit → Act → World → Prop} (hg : o.guard = none) (x y : Operand) (ho : o.op = .store 74 x y) (b : Nat) (q old : Fw.Q) (hx : a.eval x = .pointer (some ⟨b, 0, none⟩)) (hy : a.eval y = .agg q.cells) (hb : NAt w b old)
    (h : wpList Tryd.prog ops Q rest (a.put o.dst undef) (w.setRow b q.cells)) : wpList Tryd.prog ops Q (o :: rest) a w :=
  wpList_store_row hg 74 x y ho b q.cells hx hy 74 old.cells hb (by kernel_rfl) rfl q.cells_one h
theorem y_n {W : World} {K : Act → Prop} {l : List Oper} {o : Oper} {a : Act} (hg : o.guard = none) (x : Operand) (ho : o.op = .load 74 x) (b : Nat) (q : Q) (hx : a.eval x = .pointer (some ⟨b, 0, none⟩)) (hb : NAt W b q)
    (h : Qt.Lex Tryd.prog W K l (a.put o.dst (.agg q.cells))) : Qt.Lex Tryd.prog W K (o :: l) a :=
  Qt.y_row hg 74 x ho b hx 74 q.cells (0, 0) _ hb Tryd.underlying74 rfl (by kernel_rfl) h
theorem ret_n {fn : Func} {p : Tmp} (h : fn.results = #[.cell p 74]) {post : Ending → World → Prop} {a : Act} {w : World} (hd : a.defers = []) (g : Nat) (q : Q) (hp : a.tmps.getD p undef = .pointer (some ⟨g, 0, none⟩)) (hg : NAt w g q) (hpost : post (.returned (.agg q.cells)) w) :
    bodyPost Tryd.prog fn post .ret a w :=
  Own.ret_row h hd g 74 q.cells (0, 0) _ hp hg Tryd.underlying74 rfl (by kernel_rfl) hpost
theorem N2_a (w : World) (a b : Q) : NAt ((w.alloc (.cells a.cells 74)).alloc (.cells b.cells 74)) w.heap.size a := NAt.below (alloc_at w _ _ rfl) ((Below.refl (w.heap.size + 1) _).alloc (by simp) _) (by omega)
theorem N2_c (w : World) (a b : Q) : NAt ((w.alloc (.cells a.cells 74)).alloc (.cells b.cells 74)) (w.heap.size + 1) b := alloc_at _ _ _ (by simp)
theorem N2_b (w : World) (a b : Q) : Below w.heap.size w ((w.alloc (.cells a.cells 74)).alloc (.cells b.cells 74)) := ((Below.refl _ _).alloc (Nat.le_refl _) _).alloc (by simp) _
theorem fresh_n (w : World) : NAt (w.alloc (.cells zQ.cells 74)) w.heap.size zQ := alloc_at _ _ _ rfl
abbrev N3 (w : World) (a b : Q) : World := ((w.alloc (.cells a.cells 74)).alloc (.cells b.cells 74)).alloc (.cells zQ.cells 74)
theorem N3_a (w : World) (a b : Q) : NAt (N3 w a b) w.heap.size a := NAt.below (alloc_at w _ _ rfl) (((Below.refl (w.heap.size + 1) _).alloc (by simp) _).alloc (by simp) _) (by omega)
theorem N3_c (w : World) (a b : Q) : NAt (N3 w a b) (w.heap.size + 1) b := NAt.below (alloc_at _ _ _ (by simp)) ((Below.refl (w.heap.size + 2) _).alloc (by simp) _) (by omega)
theorem N3_r (w : World) (a b : Q) : NAt (N3 w a b) (w.heap.size + 1 + 1) zQ := alloc_at _ _ _ (by simp)
theorem N3_b (w : World) (a b : Q) : Below w.heap.size w (N3 w a b) := (((Below.refl _ _).alloc (Nat.le_refl _) _).alloc (by simp) _).alloc (by simp; omega) _
theorem un_bv (b : Bool) : (un (bv b) == 0) = !b := by cases b <;> rfl
theorem un_bn (b : Bool) : (un (bv b) != 0) = b := by cases b <;> rfl
set_option maxHeartbeats 400000 in
theorem below_f (a b : Q) (w : World) : Calls Tryd.prog 55 #[.agg a.cells, .agg b.cells] w fun e w' => e = .returned (.bool (decide (a.num < b.num))) ∧ Below w.heap.size w w' := by
  go_enter Tryd.func55, Tryd.ntmps55
  go_wp2_with (first | refine load_n rfl _ rfl w.heap.size a rfl (N2_a w a b) ?_ | refine load_n rfl _ rfl (w.heap.size + 1) b rfl (N2_c w a b) ?_)
  refine (wsub_f a b _).mono ?_
  rintro e w1 ⟨rfl, hb⟩
  have HB : Hid _ := hb
  clear hb
  have hbv := un_bv (m4 a b)
  go_wp2_with (refine store_n rfl _ _ rfl w1.heap.size (subW a b) zQ rfl rfl (fresh_n w1) ?_)
  refine bodyPost_ret (v := .bool (m4 a b)) (by simp [results, Tryd.results55, go_sem, un_bn]) rfl ⟨by rw [borrow_iff], ?_⟩
  exact (N2_b w a b).trans ((HB.out.mono (N2_b w a b).size).trans (((Below.refl _ _).alloc (Nat.le_trans (N2_b w a b).size HB.out.size) _).trans ((below_setRow _ _ _).mono (Nat.le_trans (N2_b w a b).size HB.out.size))))
/-- a - b, or a if b is greater. -/
def lessQ (a b : Q) : Q := if a.num < b.num then a else subW a b
theorem lessQ_num (a b : Q) (h : a.num < 2 * b.num) : (lessQ a b).num = a.num % b.num := by
  unfold lessQ
  by_cases h1 : a.num < b.num
  · rw [if_pos h1, Nat.mod_eq_of_lt h1]
  · rw [if_neg h1]
    have h2 := subW_num a b
    have h3 : m4 a b = false := by rw [borrow_iff]; exact decide_eq_false h1
    rw [h3, show (bv false).toNat = 0 from rfl] at h2
    rw [Nat.mod_eq_sub_mod (by omega), Nat.mod_eq_of_lt (by omega)]
    omega
set_option maxHeartbeats 400000 in
theorem less_f (a b : Q) (w : World) : Calls Tryd.prog 73 #[.agg a.cells, .agg b.cells] w fun e w' => e = .returned (.agg (lessQ a b).cells) ∧ Below w.heap.size w w' := by
  go_enter Tryd.func73, Tryd.ntmps73
  go_wp2_with (first | refine load_n rfl _ rfl w.heap.size a rfl (N3_a w a b) ?_ | refine load_n rfl _ rfl (w.heap.size + 1) b rfl (N3_c w a b) ?_)
  refine (wsub_f a b _).mono ?_
  rintro e w1 ⟨rfl, hb⟩
  have HB : Hid (Below (N3 w a b).heap.size (N3 w a b) w1) := hb
  clear hb
  have HR1 : Hid (NAt w1 (w.heap.size + 1 + 1) zQ) := (N3_r w a b).below HB.out (N3_r w a b).lt
  have HA1 : Hid (NAt w1 w.heap.size a) := (N3_a w a b).below HB.out (N3_a w a b).lt
  have HX : Hid (Below w1.heap.size w1 ((w1.alloc (.cells zQ.cells 74)).setRow w1.heap.size (subW a b).cells)) := ((Below.refl _ _).alloc (Nat.le_refl _) _).trans (below_setRow _ _ _)
  have HR : Hid (NAt ((w1.alloc (.cells zQ.cells 74)).setRow w1.heap.size (subW a b).cells) (w.heap.size + 1 + 1) zQ) := HR1.out.below HX.out HR1.out.lt
  have HA : Hid (NAt ((w1.alloc (.cells zQ.cells 74)).setRow w1.heap.size (subW a b).cells) w.heap.size a) := HA1.out.below HX.out HA1.out.lt
  have HS : Hid (NAt ((w1.alloc (.cells zQ.cells 74)).setRow w1.heap.size (subW a b).cells) w1.heap.size (subW a b)) := (fresh_n w1).setRow _
  have HBB : Hid (Below w.heap.size w ((w1.alloc (.cells zQ.cells 74)).setRow w1.heap.size (subW a b).cells)) := ((N3_b w a b).trans (HB.out.mono (N3_b w a b).size)).trans (HX.out.mono (Nat.le_trans (N3_b w a b).size HB.out.size))
  have hbv := un_bv (m4 a b)
  have hbn := un_bn (m4 a b)
  have hif := borrow_iff a b
  cases hm : m4 a b with
  | true =>
    rw [hm] at hbv hif hbn
    have HI : Hid (lessQ a b = a) := if_pos (of_decide_eq_true hif.symm)
    clear hif hm
    go_wp2_with (first | refine store_n rfl _ _ rfl w1.heap.size (subW a b) zQ rfl rfl (fresh_n w1) ?_ | refine load_n rfl _ rfl w.heap.size a rfl HA.out ?_ | refine store_n rfl _ _ rfl (w.heap.size + 1 + 1) a zQ rfl rfl HR.out ?_)
    exact ret_n Tryd.results73 rfl (w.heap.size + 1 + 1) a rfl (HR.out.setRow _) ⟨by rw [HI.out], HBB.out.trans ((below_setRow _ _ _).mono (by omega))⟩
  | false =>
    rw [hm] at hbv hif hbn
    have HI : Hid (lessQ a b = subW a b) := if_neg (of_decide_eq_false hif.symm)
    clear hif hm
    go_wp2_with (first | refine store_n rfl _ _ rfl w1.heap.size (subW a b) zQ rfl rfl (fresh_n w1) ?_ | refine load_n rfl _ rfl w1.heap.size (subW a b) rfl HS.out ?_ | refine store_n rfl _ _ rfl (w.heap.size + 1 + 1) (subW a b) zQ rfl rfl HR.out ?_)
    exact ret_n Tryd.results73 rfl (w.heap.size + 1 + 1) (subW a b) rfl (HR.out.setRow _) ⟨by rw [HI.out], HBB.out.trans ((below_setRow _ _ _).mono (by omega))⟩
end Ww
end Go.Proofs.YtbojijefenfbgaaDoor
namespace Go.Proofs.YtbojijefenfbgaaDoor
open Go.RowKit
namespace Ww
open Fw Bt
theorem prime_f (w : World) : Calls Tryd.prog 94 #[] w fun e w' => e = .returned (.agg (nq PP).cells) ∧ Below w.heap.size w w' := by
  go_enter Tryd.func94, Tryd.ntmps94
  go_wp2_with fail
  exact Own.ret_row Tryd.results94 rfl w.heap.size 74 _ (0, 0) _ rfl (heap_alloc_new _ _) Tryd.underlying74 rfl (by kernel_rfl) ⟨rfl, (Below.refl _ _).alloc (Nat.le_refl _) _⟩
/-- A number as a word. -/
def fromN (q : Q) : Ed.F × Bool := if h : q.num < Ed.P then (⟨q.num, h⟩, true) else (0, false)
theorem fw_of (q : Q) (h : q.num < Ed.P) : fw ⟨q.num, h⟩ = q.cells := by
  rw [fw_def]
  congr 1
  exact (nq_of rfl).symm
noncomputable abbrev R2 (w : World) (q : Q) : World := (w.alloc (.cells q.cells 74)).alloc (.cells wordZero 89)
theorem R2_a (w : World) (q : Q) : NAt (R2 w q) w.heap.size q := NAt.below (alloc_at w _ _ rfl) ((Below.refl (w.heap.size + 1) _).alloc (by simp) _) (by omega)
theorem R2_r (w : World) (q : Q) : WAt (R2 w q) (w.heap.size + 1) 0 := .zero (alloc_at _ _ _ (by simp))
theorem R2_b (w : World) (q : Q) : Below w.heap.size w (R2 w q) := ((Below.refl _ _).alloc (Nat.le_refl _) _).alloc (by simp) _
theorem PP_num : (nq PP).num = PP := nq_num (by decide)
theorem below_P (q : Q) (w : World) : Calls Tryd.prog 55 #[.agg q.cells, .agg (nq PP).cells] w fun e w' => e = .returned (.bool (decide (q.num < PP))) ∧ Below w.heap.size w w' := by
  have h := below_f q (nq PP) w
  rwa [PP_num] at h
set_option maxHeartbeats 400000 in
theorem fromNumber_f (q : Q) (w : World) : Calls Tryd.prog 75 #[.agg q.cells] w fun e w' => e = .returned (.tuple #[.agg (fw (fromN q).1), .bool (fromN q).2]) ∧ Below w.heap.size w w' := by
  obtain ⟨pc, hpc⟩ : ∃ pc, pc = (nq PP).cells := ⟨_, rfl⟩
  have Hprime : Hid (∀ w, Calls Tryd.prog 94 #[] w fun e w' => e = .returned (.agg pc) ∧ Below w.heap.size w w') := by rw [hpc]; exact prime_f
  have Hbel : Hid (∀ w, Calls Tryd.prog 55 #[.agg q.cells, .agg pc] w fun e w' => e = .returned (.bool (decide (q.num < PP))) ∧ Below w.heap.size w w') := by rw [hpc]; exact below_P q
  clear hpc
  go_enter Tryd.func75, Tryd.ntmps75
  go_wp2_with fail
  refine Qt.wp_all (by kernel_rfl) (by kernel_rfl) ?_
  refine y_n rfl _ rfl w.heap.size q rfl (R2_a w q) ?_
  refine Qt.y_call rfl 94 #[] (.agg pc) (fun _ => by kernel_rfl) (fun w' _ => Hprime.out w') ?_
  refine Qt.y_call rfl 55 #[.agg q.cells, .agg pc] (.bool (decide (q.num < PP))) (fun _ => by kernel_rfl) (fun w' _ => Hbel.out w') ?_
  refine Qt.y_val rfl (.bool (!decide (q.num < PP))) (fun _ _ => by kernel_rfl) ?_
  simp only [Act.put, List.setIfInBounds_toArray, List.set_cons_zero, List.set_cons_succ]
  refine Qt.y_nil ?_
  intro w1 hb
  have HB : Hid (Below (R2 w q).heap.size (R2 w q) w1) := hb
  clear hb
  have HA : Hid (NAt w1 w.heap.size q) := (R2_a w q).below HB.out (R2_a w q).lt
  have HR : Hid (WAt w1 (w.heap.size + 1) 0) := (R2_r w q).below HB.out (R2_r w q).lt
  have HT : Hid (Below w.heap.size w w1) := (R2_b w q).trans (HB.out.mono (R2_b w q).size)
  by_cases h : q.num < PP
  · have d := decide_eq_true h
    have HF : Hid (fromN q = (⟨q.num, h⟩, true)) := dif_pos h
    have HC : Hid (fw ⟨q.num, h⟩ = q.cells) := fw_of q h
    rw [d]
    clear d
    go_wp2_with (first | refine load_n rfl _ rfl w.heap.size q rfl HA.out ?_ | refine store_w rfl _ _ rfl (w.heap.size + 1) ⟨q.num, h⟩ 0 rfl (by rw [HC.out]; rfl) HR.out ?_)
    exact ret_wb Tryd.results75 rfl (w.heap.size + 1) ⟨q.num, h⟩ true rfl rfl (HR.out.setRow _) ⟨by rw [HF.out], HT.out.trans ((below_setRow _ _ _).mono (by omega))⟩
  · have d := decide_eq_false h
    have HF : Hid (fromN q = (0, false)) := dif_neg h
    rw [d]
    clear d
    go_wp2_with (first | refine store_z rfl _ _ rfl (w.heap.size + 1) 0 rfl rfl HR.out ?_)
    exact ret_wb Tryd.results75 rfl (w.heap.size + 1) 0 false rfl rfl (HR.out.setRow _) ⟨by rw [HF.out], HT.out.trans ((below_setRow _ _ _).mono (by omega))⟩
theorem number_f (x : Ed.F) (w : World) : Calls Tryd.prog 85 #[.agg (fw x)] w fun e w' => e = .returned (.agg (nq x.val).cells) ∧ Below w.heap.size w w' := by
  rw [fw_def]
  generalize nq x.val = q
  unfold Q.cells
  go_enter Tryd.func85, Tryd.ntmps85
  go_wp2_with fail
  exact Own.ret_row Tryd.results85 rfl (w.heap.size + 1) 74 q.cells (0, 0) _ rfl (alloc_at _ _ _ (by simp)) Tryd.underlying74 rfl (by kernel_rfl) ⟨rfl, ((Below.refl _ _).alloc (Nat.le_refl _) _).alloc (by simp) _⟩
theorem odd_val (x : BitVec 64) : (un (x &&& 1#64) == 1) = (x.toNat % 2 == 1) := by
  unfold un
  rw [BitVec.toNat_and, show (1#64).toNat = 1 from rfl, Nat.and_one_is_mod]
  rcases Nat.mod_two_eq_zero_or_one x.toNat with h | h <;> rw [h] <;> rfl
theorem and1 (x : BitVec 64) : bits .and .u64 (un x) 1 = un (x &&& 1#64) := UV.u_and x 1#64
theorem odd_f (x : Ed.F) (w : World) : Calls Tryd.prog 86 #[.agg (fw x)] w fun e w' => e = .returned (.bool (Ed.oddF x)) ∧ Below w.heap.size w w' := by
  have ho : Ed.oddF x = ((nq x.val).a0.toNat % 2 == 1) := by
    have h := fw_num x
    unfold Ed.oddF
    generalize nq x.val = q at h
    unfold Q.num at h
    congr 1
    omega
  rw [fw_def, ho]
  generalize nq x.val = q
  unfold Q.cells
  have ha := and1 q.a0
  have hb := odd_val q.a0
  go_enter Tryd.func86, Tryd.ntmps86
  go_wp2_with fail
  refine bodyPost_ret (v := .bool (q.a0.toNat % 2 == 1)) (by simp [results, Tryd.results86, go_sem]) rfl ⟨rfl, (Below.refl _ _).alloc (Nat.le_refl _) _⟩
end Ww
end Go.Proofs.YtbojijefenfbgaaDoor
