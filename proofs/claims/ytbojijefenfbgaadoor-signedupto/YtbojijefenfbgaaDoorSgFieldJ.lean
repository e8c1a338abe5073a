/- Walk of the program's field over F: Root. -/
/- Walks of the program's curve: points; affine, Neg, fromQuotients. -/
import Derived.Test.YtbojijefenfbgaaDoorSgFieldI
import Derived.ChangeKeysEq
namespace Go.Proofs.YtbojijefenfbgaaDoor
open Go.RowKit
namespace Fw
open Bt

theorem y_word {W : World} {K : Act → Prop} {l : List Oper} {o : Oper} {a : Act} (hg : o.guard = none) (x : Operand) (ho : o.op = .load 89 x) (b : Nat) (v : Ed.F) (hx : a.eval x = .pointer (some ⟨b, 0, none⟩)) (hb : WAt W b v)
    (h : Qt.Lex Tryd.prog W K l (a.put o.dst (.agg (fw v)))) : Qt.Lex Tryd.prog W K (o :: l) a :=
  Qt.y_row hg 89 x ho b hx 89 (fw v) (0, 0) _ hb Tryd.underlying89 rfl (by rw [fw_size]; kernel_rfl) h
/-- Behind 'v := ..' of a word: the store. -/
theorem l_store {ops : Array Oper} {rest : List Oper} {os : Oper} {a : Act} {w0 w : World} {Q : Exit → Act → World → Prop} {x y : Operand} (hgs : os.guard = none) (hs : os.op = .store 89 x y) (b : Nat) (v : Ed.F) (hx : a.eval x = .pointer (some ⟨b, 0, none⟩)) (hy : a.eval y = .agg (fw v))
    (hw : Below w0.heap.size w0 w) (hle : w0.heap.size ≤ b) (hb : w.heap[b]? = some (.cells wordZero 89 (0, 0)))
    (h : ∀ w2, WAt w2 b v → Below w0.heap.size w0 w2 → wpList Tryd.prog ops Q rest (a.put os.dst undef) w2) : wpList Tryd.prog ops Q (os :: rest) a w :=
  store_w hgs x y hs b v 0 hx hy (.zero hb) (h _ ((WAt.zero hb).setRow v) (hw.trans ((below_setRow _ _ _).mono hle)))

theorem eq_items (w : World) (xs ys : Array Value) (f g : Nat → BitVec 64) (l : List Nat) (hx : ∀ i ∈ l, xs[i]? = some (.int .u64 (un (f i)))) (hy : ∀ i ∈ l, ys[i]? = some (.int .u64 (un (g i)))) :
    (Op.eqItems 9999 44 1 xs ys l).run Tryd.prog w = .ok (l.all fun i => decide (f i = g i)) w := by
  induction l with
  | nil => simp [Op.eqItems]
  | cons i l ih =>
    have ih := ih (fun j hj => hx j (by simp [hj])) (fun j hj => hy j (by simp [hj]))
    have e1 := run_part_plain (P := Tryd.prog) w (e := 44) (by kernel_rfl) (hx i (by simp))
    have e2 := run_part_plain (P := Tryd.prog) w (e := 44) (by kernel_rfl) (hy i (by simp))
    have e3 := run_equalIn_int (P := Tryd.prog) (w := w) 9998 44 .u64 .u64 (un (f i)) (un (g i)) Tryd.underlying44
    simp only [Op.eqItems, Nat.mul_one, Sem.run_bind, e1, e2, e3, Result.andThen_ok]
    by_cases h : f i = g i
    · have hb : (un (f i) == un (g i)) = true := by rw [h]; simp
      rw [hb]
      simp only [Bool.not_true, Bool.false_eq_true, if_false, ih, List.all_cons, h, decide_true, Bool.true_and]
    · have hb : (un (f i) == un (g i)) = false := by
        rw [beq_eq_false_iff_ne]
        exact fun he => h (UV.un_inj he)
      rw [hb]
      simp [h]
theorem four_all {p : Nat → Prop} (h0 : p 0) (h1 : p 1) (h2 : p 2) (h3 : p 3) : ∀ i ∈ [0, 1, 2, 3], p i := by simp [h0, h1, h2, h3]
theorem eq_q (a b : Q) (w : World) : Sem.run Tryd.prog (Op.equalIn 10000 89 (.agg a.cells) (.agg b.cells)) w = .ok (decide (a.a0 = b.a0) && (decide (a.a1 = b.a1) && (decide (a.a2 = b.a2) && decide (a.a3 = b.a3)))) w := by
  obtain ⟨i, hi⟩ := Option.isSome_iff_exists.1 (show (Tryd.prog.info? 44).isSome = true by kernel_rfl)
  have h1 := run_equalIn_array (P := Tryd.prog) w 9999 (t := 89) (e := 44) (n := 4) a.cells b.cells Tryd.underlying89 hi
  rw [h1, show Tryd.prog.cellsOf 44 = 1 by kernel_rfl, show List.range 4 = [0, 1, 2, 3] from rfl]
  rw [eq_items w a.cells b.cells (fun i => match i with | 0 => a.a0 | 1 => a.a1 | 2 => a.a2 | _ => a.a3) (fun i => match i with | 0 => b.a0 | 1 => b.a1 | 2 => b.a2 | _ => b.a3) [0, 1, 2, 3] (four_all rfl rfl rfl rfl) (four_all rfl rfl rfl rfl)]
  simp only [List.all_cons, List.all_nil, Bool.and_true]
theorem nq_inj {x y : Ed.F} (h : nq x.val = nq y.val) : x = y := Fin.ext (by rw [← fw_num x, ← fw_num y, h])
theorem eq_f (x y : Ed.F) (w : World) : Sem.run Tryd.prog (Op.equalIn 10000 89 (.agg (fw x)) (.agg (fw y))) w = .ok (decide (x = y)) w := by
  rw [fw_def, fw_def, eq_q]
  congr 1
  by_cases h : x = y
  · subst h; simp
  · have hn : nq x.val ≠ nq y.val := fun he => h (nq_inj he)
    rw [decide_eq_false h]
    generalize nq x.val = a at hn
    generalize nq y.val = b at hn
    obtain ⟨a0, a1, a2, a3⟩ := a
    obtain ⟨b0, b1, b2, b3⟩ := b
    simp only [ne_eq, Q.mk.injEq, not_and] at hn
    simp only [Bool.and_eq_false_iff, decide_eq_false_iff_not]
    by_cases e0 : a0 = b0
    · by_cases e1 : a1 = b1
      · by_cases e2 : a2 = b2
        · exact .inr (.inr (.inr (hn e0 e1 e2)))
        · exact .inr (.inr (.inl e2))
      · exact .inr (.inl e1)
    · exact .inl e0

/-- A word of noughts stored. -/
theorem store_z {ops : Array Oper} {rest : List Oper} {o : Oper} {a : Act} {w : World} {Q : Exit → Act → World → Prop} (hg : o.guard = none) (x y : Operand) (ho : o.op = .store 89 x y) (b : Nat) (old : Ed.F) (hx : a.eval x = .pointer (some ⟨b, 0, none⟩)) (hy : a.eval y = .agg wordZero) (hb : WAt w b old)
    (h : wpList Tryd.prog ops Q rest (a.put o.dst undef) (w.setRow b (fw 0))) : wpList Tryd.prog ops Q (o :: rest) a w := store_w hg x y ho b 0 old hx (by rw [fw_zero]; exact hy) hb h
theorem un_lit (n : Nat) (h : n < 18446744073709551616) : un (BitVec.ofNat 64 n) = (n : Int) := UV.un_ofNat n h
theorem fw_lit (x : Ed.F) (a0 a1 a2 a3 : Nat) (h : x.val = a0 + 18446744073709551616 * a1 + 340282366920938463463374607431768211456 * a2 + 6277101735386680763835789423207666416102355444464034512896 * a3) (h0 : a0 < 18446744073709551616) (h1 : a1 < 18446744073709551616) (h2 : a2 < 18446744073709551616) (h3 : a3 < 18446744073709551616) :
    fw x = #[.int .u64 (a0 : Int), .int .u64 (a1 : Int), .int .u64 (a2 : Int), .int .u64 (a3 : Int)] := by
  have e : nq x.val = ⟨BitVec.ofNat 64 a0, BitVec.ofNat 64 a1, BitVec.ofNat 64 a2, BitVec.ofNat 64 a3⟩ := by
    refine (nq_of (q := ⟨BitVec.ofNat 64 a0, BitVec.ofNat 64 a1, BitVec.ofNat 64 a2, BitVec.ofNat 64 a3⟩) ?_).symm
    unfold Q.num
    simp only [BitVec.toNat_ofNat, Nat.mod_eq_of_lt (show a0 < 2 ^ 64 from h0), Nat.mod_eq_of_lt (show a1 < 2 ^ 64 from h1), Nat.mod_eq_of_lt (show a2 < 2 ^ 64 from h2), Nat.mod_eq_of_lt (show a3 < 2 ^ 64 from h3)]
    omega
  rw [fw_def, e]
  unfold Q.cells
  simp only [un_lit _ h0, un_lit _ h1, un_lit _ h2, un_lit _ h3]
theorem rootm_f (w : World) : Calls Tryd.prog 112 #[] w fun e w' => e = .returned (.agg (fw Ed.iI)) ∧ Below w.heap.size w w' := by
  rw [fw_lit Ed.iI 14190309331451158704 3405592160176694392 3120150775007532967 3135389899092516619 (by decide) (by decide) (by decide) (by decide) (by decide)]
  go_enter Tryd.func112, Tryd.ntmps112
  go_wp2_with fail
  exact Own.ret_row Tryd.results112 rfl w.heap.size 89 _ (0, 0) _ rfl (heap_alloc_new _ _) Tryd.underlying89 rfl (by kernel_rfl) ⟨rfl, (Below.refl _ _).alloc (Nat.le_refl _) _⟩
theorem one_f (w : World) : Calls Tryd.prog 98 #[] w fun e w' => e = .returned (.agg (fw 1)) ∧ Below w.heap.size w w' := by
  rw [fw_lit 1 1 0 0 0 (by decide) (by decide) (by decide) (by decide) (by decide)]
  go_enter Tryd.func98, Tryd.ntmps98
  go_wp2_with fail
  exact Own.ret_row Tryd.results98 rfl w.heap.size 89 _ (0, 0) _ rfl (heap_alloc_new _ _) Tryd.underlying89 rfl (by kernel_rfl) ⟨rfl, (Below.refl _ _).alloc (Nat.le_refl _) _⟩
/-- A word and a truth returned. -/
theorem ret_wb {fn : Func} {p q : Tmp} (h : fn.results = #[.cell p 89, .tmp q]) {post : Ending → World → Prop} {a : Act} {w : World} (hd : a.defers = []) (g : Nat) (v : Ed.F) (b : Bool) (hp : a.tmps.getD p undef = .pointer (some ⟨g, 0, none⟩)) (hq : a.tmps.getD q undef = .bool b) (hg : WAt w g v) (hpost : post (.returned (.tuple #[.agg (fw v), .bool b])) w) :
    bodyPost Tryd.prog fn post .ret a w := by
  refine bodyPost_ret (v := .tuple #[.agg (fw v), .bool b]) ?_ hd hpost
  have hl := run_loadVar_row (P := Tryd.prog) w g 89 89 (fw v) (0, 0) _ hg Tryd.underlying89 rfl (by rw [fw_size]; kernel_rfl)
  have hp' : a.tmps[p]?.getD undef = .pointer (some ⟨g, 0, none⟩) := by simpa using hp
  have hq' : a.tmps[q]?.getD undef = .bool b := by simpa using hq
  simp [results, h, hp', hq', asAddr, hl]

attribute [local go_sem] eq_f
set_option maxRecDepth 100000 in
set_option maxHeartbeats 400000 in
theorem root_f (u v : Ed.F) (w : World) :
    Calls Tryd.prog 96 #[.agg (fw u), .agg (fw v)] w fun e w' => e = .returned (.tuple #[.agg (fw (Ed.rootF u v).1), .bool (Ed.rootF u v).2]) ∧ Below w.heap.size w w' := by
  obtain ⟨r, hr⟩ : ∃ r, r = Ed.rootC u v := ⟨_, rfl⟩
  obtain ⟨s, hs⟩ : ∃ s, s = Ed.fpow (u * (v * v * v * (v * v * v) * v)) Ed.e8 := ⟨_, rfl⟩
  have hrs : Hid (u * (v * v * v) * s = r) := by rw [hr, hs]; rfl
  have hpow : Hid (∀ w, Calls Tryd.prog 103 #[.agg (fw (u * (v * v * v * (v * v * v) * v)))] w fun e w' => e = .returned (.agg (fw s)) ∧ Below w.heap.size w w') := by rw [hs]; exact power_f _
  have hF : Hid (Ed.rootF u v = Ed.rootG u v r) := by rw [hr]; rfl
  rw [hF.out]
  clear hr hs
  go_enter Tryd.func96, Tryd.ntmps96
  go_wp2_with fail
  refine Qt.wp_let 4 (by kernel_rfl) (by kernel_rfl) _ rfl 89 rfl wordZero (by kernel_rfl) ?_
  refine y_word rfl _ rfl (w.heap.size + 1) (v) rfl (W3_c w u v) ?_
  refine Qt.y_call rfl 95 #[.agg (fw (v))] _ (fun _ => by kernel_rfl) (fun w' _ => square_f (v) w') ?_
  refine y_word rfl _ rfl (w.heap.size + 1) (v) rfl (W3_c w u v) ?_
  refine Qt.y_call rfl 84 #[.agg (fw (v * v)), .agg (fw (v))] _ (fun _ => by kernel_rfl) (fun w' _ => mul_f (v * v) (v) w') ?_
  simp only [Act.put, List.setIfInBounds_toArray, List.set_cons_zero, List.set_cons_succ]
  refine Qt.y_nil ?_
  intro b3 w1 hw1 hle hb
  refine l_store rfl rfl b3 (v * v * v) rfl rfl hw1 hle hb ?_
  intro w2 hW hb2
  have HB : Hid (Below (W3 w u v).heap.size (W3 w u v) w2) := hb2
  have HU : Hid (WAt w2 w.heap.size u) := (W3_a w u v).below HB.out (W3_a w u v).lt
  have HV : Hid (WAt w2 (w.heap.size + 1) v) := (W3_c w u v).below HB.out (W3_c w u v).lt
  have HR : Hid (WAt w2 (w.heap.size + 1 + 1) 0) := (W3_r w u v).below HB.out (W3_r w u v).lt
  have H3 : Hid (WAt w2 b3 (v * v * v)) := hW
  have HT : Hid (Below w.heap.size w w2) := (W3_b w u v).trans (HB.out.mono (W3_b w u v).size)
  clear hW hb2 hb hle HB hw1
  simp only [Act.put, List.setIfInBounds_toArray, List.set_cons_zero, List.set_cons_succ]
  go_wp2_with fail
  refine Qt.wp_let 4 (by kernel_rfl) (by kernel_rfl) _ rfl 89 rfl wordZero (by kernel_rfl) ?_
  refine y_word rfl _ rfl (b3) (v * v * v) rfl H3.out ?_
  refine Qt.y_call rfl 95 #[.agg (fw (v * v * v))] _ (fun _ => by kernel_rfl) (fun w' _ => square_f (v * v * v) w') ?_
  refine y_word rfl _ rfl (w.heap.size + 1) (v) rfl HV.out ?_
  refine Qt.y_call rfl 84 #[.agg (fw (v * v * v * (v * v * v))), .agg (fw (v))] _ (fun _ => by kernel_rfl) (fun w' _ => mul_f (v * v * v * (v * v * v)) (v) w') ?_
  simp only [Act.put, List.setIfInBounds_toArray, List.set_cons_zero, List.set_cons_succ]
  refine Qt.y_nil ?_
  intro b7 w3 hw1 hle hb
  refine l_store rfl rfl b7 (v * v * v * (v * v * v) * v) rfl rfl hw1 hle hb ?_
  intro w4 hW hb2
  have HB : Hid (Below w2.heap.size w2 w4) := hb2
  have HU4 : Hid (WAt w4 w.heap.size u) := HU.out.below HB.out HU.out.lt
  have HV4 : Hid (WAt w4 (w.heap.size + 1) v) := HV.out.below HB.out HV.out.lt
  have HR4 : Hid (WAt w4 (w.heap.size + 1 + 1) 0) := HR.out.below HB.out HR.out.lt
  have H34 : Hid (WAt w4 b3 (v * v * v)) := H3.out.below HB.out H3.out.lt
  have H7 : Hid (WAt w4 b7 (v * v * v * (v * v * v) * v)) := hW
  have HT4 : Hid (Below w.heap.size w w4) := HT.out.trans (HB.out.mono HT.out.size)
  clear hW hb2 hb hle HB hw1 HU HV HR H3 HT
  simp only [Act.put, List.setIfInBounds_toArray, List.set_cons_zero, List.set_cons_succ]
  go_wp2_with fail
  refine Qt.wp_let 8 (by kernel_rfl) (by kernel_rfl) _ rfl 89 rfl wordZero (by kernel_rfl) ?_
  refine y_word rfl _ rfl (w.heap.size) (u) rfl HU4.out ?_
  refine y_word rfl _ rfl (b3) (v * v * v) rfl H34.out ?_
  refine Qt.y_call rfl 84 #[.agg (fw (u)), .agg (fw (v * v * v))] _ (fun _ => by kernel_rfl) (fun w' _ => mul_f (u) (v * v * v) w') ?_
  simp only [Act.put, List.setIfInBounds_toArray, List.set_cons_zero, List.set_cons_succ]
  refine y_word rfl _ rfl (w.heap.size) (u) rfl HU4.out ?_
  refine y_word rfl _ rfl (b7) (v * v * v * (v * v * v) * v) rfl H7.out ?_
  refine Qt.y_call rfl 84 #[.agg (fw (u)), .agg (fw (v * v * v * (v * v * v) * v))] _ (fun _ => by kernel_rfl) (fun w' _ => mul_f (u) (v * v * v * (v * v * v) * v) w') ?_
  simp only [Act.put, List.setIfInBounds_toArray, List.set_cons_zero, List.set_cons_succ]
  refine Qt.y_call rfl 103 #[.agg (fw (u * (v * v * v * (v * v * v) * v)))] (.agg (fw s)) (fun _ => by kernel_rfl) (fun w' _ => hpow.out w') ?_
  refine Qt.y_call rfl 84 #[.agg (fw (u * (v * v * v))), .agg (fw (s))] _ (fun _ => by kernel_rfl) (fun w' _ => mul_f (u * (v * v * v)) (s) w') ?_
  rw [hrs.out]
  simp only [Act.put, List.setIfInBounds_toArray, List.set_cons_zero, List.set_cons_succ]
  refine Qt.y_nil ?_
  intro br w5 hw1 hle hb
  refine l_store rfl rfl br r rfl rfl hw1 hle hb ?_
  intro w5 hW hb2
  have HB : Hid (Below w4.heap.size w4 w5) := hb2
  have HU : Hid (WAt w5 w.heap.size u) := HU4.out.below HB.out HU4.out.lt
  have HV : Hid (WAt w5 (w.heap.size + 1) v) := HV4.out.below HB.out HV4.out.lt
  have HR : Hid (WAt w5 (w.heap.size + 1 + 1) 0) := HR4.out.below HB.out HR4.out.lt
  have HQ : Hid (WAt w5 br r) := hW
  have HT : Hid (Below w.heap.size w w5) := HT4.out.trans (HB.out.mono HT4.out.size)
  clear hW hb2 hb hle HB hw1 HU4 HV4 HR4 H34 HT4 H7
  simp only [Act.put, List.setIfInBounds_toArray, List.set_cons_zero, List.set_cons_succ]
  go_wp2_with fail
  refine Qt.wp_all (by kernel_rfl) (by kernel_rfl) ?_
  refine y_word rfl _ rfl (w.heap.size + 1) (v) rfl HV.out ?_
  refine y_word rfl _ rfl (br) (r) rfl HQ.out ?_
  refine Qt.y_call rfl 95 #[.agg (fw (r))] _ (fun _ => by kernel_rfl) (fun w' _ => square_f (r) w') ?_
  refine Qt.y_call rfl 84 #[.agg (fw (v)), .agg (fw (r * r))] _ (fun _ => by kernel_rfl) (fun w' _ => mul_f (v) (r * r) w') ?_
  simp only [Act.put, List.setIfInBounds_toArray, List.set_cons_zero, List.set_cons_succ]
  refine Qt.y_nil ?_
  intro w6 hb1
  have HB : Hid (Below w5.heap.size w5 w6) := hb1
  have HU6 : Hid (WAt w6 w.heap.size u) := HU.out.below HB.out HU.out.lt
  have HV6 : Hid (WAt w6 (w.heap.size + 1) v) := HV.out.below HB.out HV.out.lt
  have HR6 : Hid (WAt w6 (w.heap.size + 1 + 1) 0) := HR.out.below HB.out HR.out.lt
  have HQ6 : Hid (WAt w6 br r) := HQ.out.below HB.out HQ.out.lt
  have HT6 : Hid (Below w.heap.size w w6) := HT.out.trans (HB.out.mono HT.out.size)
  clear hb1 HB HU HV HR HQ HT
  by_cases h1 : v * (r * r) = u
  · have e1 : Hid (Ed.rootG u v r = (r, true)) := if_pos h1
    have d1 := decide_eq_true h1
    have H1 : Hid _ := h1
    clear h1
    go_wp2_with (first | refine load_w rfl _ rfl w.heap.size u rfl HU6.out ?_ | refine load_w rfl _ rfl br r rfl HQ6.out ?_ | refine store_w rfl _ _ rfl (w.heap.size + 1 + 1) r 0 rfl rfl HR6.out ?_)
    exact ret_wb Tryd.results96 rfl (w.heap.size + 1 + 1) r true rfl rfl (HR6.out.setRow _) ⟨by rw [e1.out], HT6.out.trans ((below_setRow _ _ _).mono (by omega))⟩
  · have d1 := decide_eq_false h1
    by_cases h2 : v * (r * r) = 0 - u
    · have e2 : Hid (Ed.rootG u v r = (r * Ed.iI, true)) := (if_neg h1).trans (if_pos h2)
      have d2 := decide_eq_true h2
      have H1 : Hid _ := h1
      have H2 : Hid _ := h2
      clear h1 h2
      go_wp2_with (first | refine load_w rfl _ rfl w.heap.size u rfl HU6.out ?_ | (go_at_call 82; refine (neg_f u _).mono ?_; rintro e w7 ⟨rfl, hb7⟩; have HB7 : Hid (Below w6.heap.size w6 w7) := hb7; clear hb7))
      have HQ7 : Hid (WAt w7 br r) := HQ6.out.below HB7.out HQ6.out.lt
      have HR7 : Hid (WAt w7 (w.heap.size + 1 + 1) 0) := HR6.out.below HB7.out HR6.out.lt
      refine Qt.wp_tail 3 (by kernel_rfl) (by kernel_rfl) ?_
      refine y_word rfl _ rfl (br) (r) rfl HQ7.out ?_
      refine Qt.y_call rfl 112 #[] (.agg (fw Ed.iI)) (fun _ => by kernel_rfl) (fun w' _ => rootm_f w') ?_
      refine Qt.y_call rfl 84 #[.agg (fw (r)), .agg (fw (Ed.iI))] _ (fun _ => by kernel_rfl) (fun w' _ => mul_f (r) (Ed.iI) w') ?_
      simp only [Act.put, List.setIfInBounds_toArray, List.set_cons_zero, List.set_cons_succ]
      refine Qt.y_nil ?_
      intro w8 hb8
      have HB8 : Hid (Below w7.heap.size w7 w8) := hb8
      clear hb8
      have HR8 : Hid (WAt w8 (w.heap.size + 1 + 1) 0) := HR7.out.below HB8.out HR7.out.lt
      refine store_w rfl _ _ rfl (w.heap.size + 1 + 1) (r * Ed.iI) 0 rfl rfl HR8.out ?_
      go_wp2_with fail
      exact ret_wb Tryd.results96 rfl (w.heap.size + 1 + 1) (r * Ed.iI) true rfl rfl (HR8.out.setRow _) ⟨by rw [e2.out], ((HT6.out.trans (HB7.out.mono HT6.out.size)).trans (HB8.out.mono (Nat.le_trans HT6.out.size HB7.out.size))).trans ((below_setRow _ _ _).mono (by omega))⟩
    · have e3 : Hid (Ed.rootG u v r = (0, false)) := (if_neg h1).trans (if_neg h2)
      have d2 := decide_eq_false h2
      have H1 : Hid _ := h1
      have H2 : Hid _ := h2
      clear h1 h2
      go_wp2_with (first | refine load_w rfl _ rfl w.heap.size u rfl HU6.out ?_ | (go_at_call 82; refine (neg_f u _).mono ?_; rintro e w7 ⟨rfl, hb7⟩; have HB7 : Hid (Below w6.heap.size w6 w7) := hb7; have HR7 : Hid (WAt w7 (w.heap.size + 1 + 1) 0) := HR6.out.below HB7.out HR6.out.lt; clear hb7) | refine store_z rfl _ _ rfl (w.heap.size + 1 + 1) 0 rfl rfl HR7.out ?_)
      exact ret_wb Tryd.results96 rfl (w.heap.size + 1 + 1) 0 false rfl rfl (HR7.out.setRow _) ⟨by rw [e3.out], (HT6.out.trans (HB7.out.mono HT6.out.size)).trans ((below_setRow _ _ _).mono (by omega))⟩
end Fw
end Go.Proofs.YtbojijefenfbgaaDoor
namespace Go.Proofs.YtbojijefenfbgaaDoor
open Go.RowKit
namespace Cw
open Fw

theorem pw_ex : ∃ f : Ed.E → Array Value, ∀ e, f e = fw e.x ++ fw e.y ++ fw e.z ++ fw e.t := ⟨_, fun _ => rfl⟩
/-- A point, as the program holds it. -/
noncomputable def pw : Ed.E → Array Value := Classical.choose pw_ex
theorem pw_def (e : Ed.E) : pw e = fw e.x ++ fw e.y ++ fw e.z ++ fw e.t := Classical.choose_spec pw_ex e
theorem fw_four (x : Ed.F) : ∃ a b c d : Value, fw x = #[a, b, c, d] ∧ a.oneCell' = true ∧ b.oneCell' = true ∧ c.oneCell' = true ∧ d.oneCell' = true := by
  rw [fw_def]
  exact ⟨_, _, _, _, rfl, rfl, rfl, rfl, rfl⟩
theorem pw_size (e : Ed.E) : (pw e).size = 16 := by rw [pw_def]; simp [fw_size]
theorem pw_one (e : Ed.E) : (pw e).all (·.oneCell') = true := by
  rw [pw_def]
  simp only [Array.all_append, fw_one, Bool.and_self]
theorem built_pt (x y z t : Ed.F) : Tryd.prog.built 91 [(0, .agg (fw x)), (1, .agg (fw y)), (2, .agg (fw z)), (3, .agg (fw t))] = some (pw ⟨x, y, z, t⟩) := by
  rw [pw_def]
  obtain ⟨a0, a1, a2, a3, ha, _⟩ := fw_four x
  obtain ⟨b0, b1, b2, b3, hb, _⟩ := fw_four y
  obtain ⟨c0, c1, c2, c3, hc, _⟩ := fw_four z
  obtain ⟨d0, d1, d2, d3, hd, _⟩ := fw_four t
  simp only [ha, hb, hc, hd]
  kernel_rfl
def ptZero : Array Value := #[.int .u64 0, .int .u64 0, .int .u64 0, .int .u64 0, .int .u64 0, .int .u64 0, .int .u64 0, .int .u64 0, .int .u64 0, .int .u64 0, .int .u64 0, .int .u64 0, .int .u64 0, .int .u64 0, .int .u64 0, .int .u64 0]
def e0 : Ed.E := ⟨0, 0, 0, 0⟩
theorem pw_zero : pw e0 = ptZero := by rw [pw_def]; simp only [e0, fw_zero]; rfl
/-- A point lies in a block. -/
def PAt (w : World) (b : Nat) (e : Ed.E) : Prop := w.heap[b]? = some (.cells (pw e) 91 (0, 0))
theorem PAt.lt {w : World} {b : Nat} {e : Ed.E} (h : PAt w b e) : b < w.heap.size := (Array.getElem?_eq_some_iff.1 h).1
theorem PAt.below {w w' : World} {b : Nat} {e : Ed.E} (h : PAt w b e) {k : Nat} (hb : Below k w w') (hk : b < k) : PAt w' b e := (hb.block b hk).trans h
theorem PAt.zero {w : World} {b : Nat} (h : w.heap[b]? = some (.cells ptZero 91 (0, 0))) : PAt w b e0 := by unfold PAt; rw [pw_zero]; exact h
theorem PAt.setRow {w : World} {b : Nat} {e : Ed.E} (h : PAt w b e) (f : Ed.E) : PAt (w.setRow b (pw f)) b f := setRow_heap _ _ _ _ _ _ h
theorem PAt.range {w : World} {b : Nat} {e : Ed.E} (h : PAt w b e) (off : Nat) (v : Ed.F) (hv : ∀ j, j < 4 → (pw e)[off + j]? = (fw v)[j]?) : w.rangeAt b off (fw v).toList := fun j u hu => by
  have hj : j < 4 := by
    have := (List.getElem?_eq_some_iff.1 hu).1
    rw [Array.length_toList, fw_size] at this
    exact this
  rw [cell_of_row w b (off + j) _ _ _ h, hv j hj]
  simpa using hu
theorem PAt.x {w : World} {b : Nat} {e : Ed.E} (h : PAt w b e) : w.rangeAt b 0 (fw e.x).toList := h.range 0 e.x fun j hj => by
  rw [pw_def, Array.getElem?_append_left (by simp [fw_size]; omega), Array.getElem?_append_left (by simp [fw_size]; omega), Array.getElem?_append_left (by simp [fw_size]; omega)]
  congr 1; omega
theorem PAt.y {w : World} {b : Nat} {e : Ed.E} (h : PAt w b e) : w.rangeAt b 4 (fw e.y).toList := h.range 4 e.y fun j hj => by
  rw [pw_def, Array.getElem?_append_left (by simp [fw_size]; omega), Array.getElem?_append_left (by simp [fw_size]; omega), Array.getElem?_append_right (by simp [fw_size])]
  congr 1; simp [fw_size]
theorem PAt.z {w : World} {b : Nat} {e : Ed.E} (h : PAt w b e) : w.rangeAt b 8 (fw e.z).toList := h.range 8 e.z fun j hj => by
  rw [pw_def, Array.getElem?_append_left (by simp [fw_size]; omega), Array.getElem?_append_right (by simp [fw_size])]
  congr 1; simp [fw_size]
theorem PAt.t {w : World} {b : Nat} {e : Ed.E} (h : PAt w b e) : w.rangeAt b 12 (fw e.t).toList := h.range 12 e.t fun j hj => by
  rw [pw_def, Array.getElem?_append_right (by simp [fw_size])]
  congr 1; simp [fw_size]
theorem y_fld {W : World} {K : Act → Prop} {l : List Oper} {o : Oper} {a : Act} (hg : o.guard = none) (x : Operand) (ho : o.op = .load 89 x) (b off : Nat) (v : Ed.F) (hx : a.eval x = .pointer (some ⟨b, off, none⟩)) (hb : b < W.heap.size) (hr : W.rangeAt b off (fw v).toList)
    (h : Qt.Lex Tryd.prog W K l (a.put o.dst (.agg (fw v)))) : Qt.Lex Tryd.prog W K (o :: l) a :=
  Qt.y_mid hg 89 x ho b off hx (fw v).toList _ hb hr Tryd.underlying89 rfl (by rw [Array.length_toList, fw_size]; kernel_rfl) h
theorem y_build {W : World} {K : Act → Prop} {l : List Oper} {o : Oper} {a : Act} (hg : o.guard = none) (parts : Array (Nat × Operand)) (ho : o.op = .build 91 parts) (e : Ed.E) (hf : (parts.map fun (i, x) => (i, a.eval x)).toList = [(0, .agg (fw e.x)), (1, .agg (fw e.y)), (2, .agg (fw e.z)), (3, .agg (fw e.t))])
    (h : Qt.Lex Tryd.prog W K l (a.put o.dst (.agg (pw e)))) : Qt.Lex Tryd.prog W K (o :: l) a := by
  refine Qt.y_val hg (.agg (pw e)) (fun w' _ => ?_) h
  have hr := run_build (P := Tryd.prog) w' 91 (parts.map fun (i, x) => (i, a.eval x)) (pw e) (by rw [hf]; exact built_pt e.x e.y e.z e.t)
  unfold execOp
  simp only [ho, Sem.run_bind, Sem.run_pure, Result.andThen_ok, hr]
theorem store_p {ops : Array Oper} {rest : List Oper} {o : Oper} {a : Act} {w : World} {Q : Exit → Act → World → Prop} (hg : o.guard = none) (x y : Operand) (ho : o.op = .store 91 x y) (b : Nat) (v old : Ed.E) (hx : a.eval x = .pointer (some ⟨b, 0, none⟩)) (hy : a.eval y = .agg (pw v)) (hb : PAt w b old)
    (h : wpList Tryd.prog ops Q rest (a.put o.dst undef) (w.setRow b (pw v))) : wpList Tryd.prog ops Q (o :: rest) a w :=
  wpList_store_row hg 91 x y ho b (pw v) hx hy 91 (pw old) hb (by rw [pw_size]; kernel_rfl) ((pw_size _).trans (pw_size _).symm) (pw_one v) h
theorem load_p {ops : Array Oper} {rest : List Oper} {o : Oper} {a : Act} {w : World} {Q : Exit → Act → World → Prop} (hg : o.guard = none) (x : Operand) (ho : o.op = .load 91 x) (b : Nat) (v : Ed.E) (hx : a.eval x = .pointer (some ⟨b, 0, none⟩)) (hb : PAt w b v)
    (h : wpList Tryd.prog ops Q rest (a.put o.dst (.agg (pw v))) w) : wpList Tryd.prog ops Q (o :: rest) a w :=
  wpList_load_row hg 91 x ho b hx 91 (pw v) (0, 0) _ hb Tryd.underlying91 rfl (by rw [pw_size]; kernel_rfl) h
theorem y_pt {W : World} {K : Act → Prop} {l : List Oper} {o : Oper} {a : Act} (hg : o.guard = none) (x : Operand) (ho : o.op = .load 91 x) (b : Nat) (v : Ed.E) (hx : a.eval x = .pointer (some ⟨b, 0, none⟩)) (hb : PAt W b v)
    (h : Qt.Lex Tryd.prog W K l (a.put o.dst (.agg (pw v)))) : Qt.Lex Tryd.prog W K (o :: l) a :=
  Qt.y_row hg 91 x ho b hx 91 (pw v) (0, 0) _ hb Tryd.underlying91 rfl (by rw [pw_size]; kernel_rfl) h
theorem ret_p {fn : Func} {p : Tmp} (h : fn.results = #[.cell p 91]) {post : Ending → World → Prop} {a : Act} {w : World} (hd : a.defers = []) (g : Nat) (v : Ed.E) (hp : a.tmps.getD p undef = .pointer (some ⟨g, 0, none⟩)) (hg : PAt w g v) (hpost : post (.returned (.agg (pw v))) w) :
    bodyPost Tryd.prog fn post .ret a w :=
  Own.ret_row h hd g 91 (pw v) (0, 0) _ hp hg Tryd.underlying91 rfl (by rw [pw_size]; kernel_rfl) hpost
/-- Blocks behind w. -/
noncomputable abbrev V2 (w : World) (e : Ed.E) : World := (w.alloc (.cells (pw e) 91)).alloc (.cells ptZero 91)
theorem V2_a (w : World) (e : Ed.E) : PAt (V2 w e) w.heap.size e := PAt.below (alloc_at w _ _ rfl) ((Below.refl (w.heap.size + 1) _).alloc (by simp) _) (by omega)
theorem V2_r (w : World) (e : Ed.E) : PAt (V2 w e) (w.heap.size + 1) e0 := .zero (alloc_at _ _ _ (by simp))
theorem V2_b (w : World) (e : Ed.E) : Below w.heap.size w (V2 w e) := ((Below.refl _ _).alloc (Nat.le_refl _) _).alloc (by simp) _
noncomputable abbrev U3 (w : World) (x y : Ed.F) : World := ((w.alloc (.cells (fw x) 89)).alloc (.cells (fw y) 89)).alloc (.cells ptZero 91)
theorem U3_x (w : World) (x y : Ed.F) : WAt (U3 w x y) w.heap.size x := WAt.below (alloc_at w _ _ rfl) (((Below.refl (w.heap.size + 1) _).alloc (by simp) _).alloc (by simp) _) (by omega)
theorem U3_y (w : World) (x y : Ed.F) : WAt (U3 w x y) (w.heap.size + 1) y := WAt.below (alloc_at _ _ _ (by simp)) ((Below.refl (w.heap.size + 2) _).alloc (by simp) _) (by omega)
theorem U3_r (w : World) (x y : Ed.F) : PAt (U3 w x y) (w.heap.size + 1 + 1) e0 := .zero (alloc_at _ _ _ (by simp))
theorem U3_b (w : World) (x y : Ed.F) : Below w.heap.size w (U3 w x y) := (((Below.refl _ _).alloc (Nat.le_refl _) _).alloc (by simp) _).alloc (by simp; omega) _

set_option maxHeartbeats 400000 in
theorem affine_f (x y : Ed.F) (w : World) :
    Calls Tryd.prog 77 #[.agg (fw x), .agg (fw y)] w fun e w' => e = .returned (.agg (pw (Ed.aff x y))) ∧ Below w.heap.size w w' := by
  go_enter Tryd.func77, Tryd.ntmps77
  go_wp2_with fail
  refine Qt.wp_tail 7 (by kernel_rfl) (by kernel_rfl) ?_
  refine y_word rfl _ rfl (w.heap.size) (x) rfl (U3_x w x y) ?_
  refine y_word rfl _ rfl (w.heap.size + 1) (y) rfl (U3_y w x y) ?_
  refine Qt.y_call rfl 98 #[] (.agg (fw 1)) (fun _ => by kernel_rfl) (fun w' _ => one_f w') ?_
  refine y_word rfl _ rfl (w.heap.size) (x) rfl (U3_x w x y) ?_
  refine y_word rfl _ rfl (w.heap.size + 1) (y) rfl (U3_y w x y) ?_
  refine Qt.y_call rfl 84 #[.agg (fw (x)), .agg (fw (y))] _ (fun _ => by kernel_rfl) (fun w' _ => mul_f (x) (y) w') ?_
  simp only [Act.put, List.setIfInBounds_toArray, List.set_cons_zero, List.set_cons_succ]
  refine y_build rfl _ rfl (Ed.aff x y) (by kernel_rfl) ?_
  simp only [Act.put, List.setIfInBounds_toArray, List.set_cons_zero, List.set_cons_succ]
  refine Qt.y_nil ?_
  intro w1 hb
  have HB : Hid (Below (U3 w x y).heap.size (U3 w x y) w1) := hb
  clear hb
  have HR : Hid (PAt w1 (w.heap.size + 1 + 1) e0) := (U3_r w x y).below HB.out (U3_r w x y).lt
  refine store_p rfl _ _ rfl (w.heap.size + 1 + 1) (Ed.aff x y) e0 rfl rfl HR.out ?_
  go_wp2_with fail
  exact ret_p Tryd.results77 rfl (w.heap.size + 1 + 1) (Ed.aff x y) rfl (HR.out.setRow _) ⟨rfl, below_store (U3_b w x y) HB.out _ (by omega) _⟩
set_option maxHeartbeats 400000 in
theorem neg_p (p : Ed.E) (w : World) :
    Calls Tryd.prog 60 #[.agg (pw p)] w fun e w' => e = .returned (.agg (pw (Ed.eneg p))) ∧ Below w.heap.size w w' := by
  have HA := V2_a w p
  go_enter Tryd.func60, Tryd.ntmps60
  go_wp2_with fail
  refine Qt.wp_tail 11 (by kernel_rfl) (by kernel_rfl) ?_
  refine Qt.y_val rfl (.pointer (some ⟨w.heap.size, 0, none⟩)) (fun _ _ => by kernel_rfl) ?_
  refine y_fld rfl _ rfl w.heap.size 0 p.x rfl HA.lt HA.x ?_
  refine Qt.y_call rfl 82 #[.agg (fw (p.x))] _ (fun _ => by kernel_rfl) (fun w' _ => neg_f (p.x) w') ?_
  refine Qt.y_val rfl (.pointer (some ⟨w.heap.size, 4, none⟩)) (fun _ _ => by kernel_rfl) ?_
  refine y_fld rfl _ rfl w.heap.size 4 p.y rfl HA.lt HA.y ?_
  simp only [Act.put, List.setIfInBounds_toArray, List.set_cons_zero, List.set_cons_succ]
  refine Qt.y_val rfl (.pointer (some ⟨w.heap.size, 8, none⟩)) (fun _ _ => by kernel_rfl) ?_
  refine y_fld rfl _ rfl w.heap.size 8 p.z rfl HA.lt HA.z ?_
  refine Qt.y_val rfl (.pointer (some ⟨w.heap.size, 12, none⟩)) (fun _ _ => by kernel_rfl) ?_
  refine y_fld rfl _ rfl w.heap.size 12 p.t rfl HA.lt HA.t ?_
  refine Qt.y_call rfl 82 #[.agg (fw (p.t))] _ (fun _ => by kernel_rfl) (fun w' _ => neg_f (p.t) w') ?_
  simp only [Act.put, List.setIfInBounds_toArray, List.set_cons_zero, List.set_cons_succ]
  refine y_build rfl _ rfl (Ed.eneg p) (by kernel_rfl) ?_
  simp only [Act.put, List.setIfInBounds_toArray, List.set_cons_zero, List.set_cons_succ]
  refine Qt.y_nil ?_
  intro w1 hb
  have HB : Hid (Below (V2 w p).heap.size (V2 w p) w1) := hb
  clear hb
  have HR : Hid (PAt w1 (w.heap.size + 1) e0) := (V2_r w p).below HB.out (V2_r w p).lt
  refine store_p rfl _ _ rfl (w.heap.size + 1) (Ed.eneg p) e0 rfl rfl HR.out ?_
  go_wp2_with fail
  exact ret_p Tryd.results60 rfl (w.heap.size + 1) (Ed.eneg p) rfl (HR.out.setRow _) ⟨rfl, below_store (V2_b w p) HB.out _ (by omega) _⟩
end Cw
end Go.Proofs.YtbojijefenfbgaaDoor
