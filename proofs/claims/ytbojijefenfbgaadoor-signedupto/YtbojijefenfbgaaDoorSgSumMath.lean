/- What the program's Sum of terms stands for. -/
/- Walks of the program's signing: timesBase. -/
import Derived.Test.YtbojijefenfbgaaDoorSgScalarA
import Derived.Great.BuildSlice
namespace Go.Proofs.YtbojijefenfbgaaDoor
open Go.RowKit
namespace Ed
/-- The sum of the first m points, each so many times. -/
def pS (p : Nat → Pt) (c : Nat → Nat) : Nat → Pt
  | 0 => zero
  | m + 1 => padd (pS p c m) (mulP (p m) (c m))
theorem pS_on {p : Nat → Pt} (hp : ∀ j, OnP (p j)) (c : Nat → Nat) (m : Nat) : OnP (pS p c m) := by
  induction m with
  | zero => exact zero_on
  | succ m ih => exact padd_on ih (mulP_on (hp m) _)
theorem swap4 {a b c d : Pt} (ha : OnP a) (hb : OnP b) (hc : OnP c) (hd : OnP d) : padd (padd a b) (padd c d) = padd (padd a c) (padd b d) := by
  rw [padd_assoc ha hb (padd_on hc hd), ← padd_assoc hb hc hd, padd_comm b c, padd_assoc hc hb hd, ← padd_assoc ha hc (padd_on hb hd)]
theorem pS_add {p : Nat → Pt} (hp : ∀ j, OnP (p j)) (a b : Nat → Nat) (m : Nat) : padd (pS p a m) (pS p b m) = pS p (fun j => a j + b j) m := by
  induction m with
  | zero => exact padd_zero zero
  | succ m ih =>
    show padd (padd (pS p a m) (mulP (p m) (a m))) (padd (pS p b m) (mulP (p m) (b m))) = padd (pS p (fun j => a j + b j) m) (mulP (p m) (a m + b m))
    rw [swap4 (pS_on hp a m) (mulP_on (hp m) _) (pS_on hp b m) (mulP_on (hp m) _), ih, mulP_add (hp m)]
theorem pS_congr {p : Nat → Pt} {a b : Nat → Nat} (h : ∀ j, a j = b j) (m : Nat) : pS p a m = pS p b m := by
  rw [show a = b from funext h]
end Ed
namespace Cw
open Fw Ww Bt Ed
theorem ein_rep {T : Nat → Q × E} {p : Nat → Pt} (hp : ∀ j, OnP (p j)) (hT : ∀ j, Rep (T j).2 (p j)) (i : Nat) {acc : E} {P0 : Pt} (h0 : OnP P0) (ha : Rep acc P0) (j : Nat) : Rep (ein T i acc j) (padd P0 (pS p (fun k => (dgW (T k).1 i).toNat) j)) := by
  induction j with
  | zero => rw [show pS p _ 0 = zero from rfl, padd_zero]; exact ha
  | succ j ih =>
    have h1 := eadd_rep (padd_on h0 (pS_on hp _ j)) (mulP_on (hp j) (dgW (T j).1 i).toNat) ih (emul_rep (hp j) (hT j) (dgW (T j).1 i).toNat)
    rw [padd_assoc h0 (pS_on hp _ j) (mulP_on (hp j) _)] at h1
    exact h1
theorem dbl4_rep {p : Nat → Pt} (hp : ∀ j, OnP (p j)) {e : E} {c : Nat → Nat} {m : Nat} (h : Rep e (pS p c m)) : Rep (dbl4 e) (pS p (fun j => 16 * c j) m) := by
  have d1 := edbl_rep (pS_on hp c m) h
  rw [pS_add hp] at d1
  have d2 := edbl_rep (pS_on hp _ m) d1
  rw [pS_add hp] at d2
  have d3 := edbl_rep (pS_on hp _ m) d2
  rw [pS_add hp] at d3
  have d4 := edbl_rep (pS_on hp _ m) d3
  rw [pS_add hp] at d4
  rw [pS_congr (b := fun j => 16 * c j) (fun j => by omega)] at d4
  exact d4
theorem dg_low (x r b : Nat) (hb : b < 16) : (x + 18446744073709551616 * r) / 16 ^ b % 16 = x / 16 ^ b % 16 := by
  have h : (18446744073709551616 : Nat) = 16 * 16 ^ (15 - b) * 16 ^ b := by
    rw [Nat.mul_assoc, ← Nat.pow_add, show 15 - b + b = 15 by omega]
  have e : 18446744073709551616 * r = (16 * (16 ^ (15 - b) * r)) * 16 ^ b := by
    rw [h]
    generalize 16 ^ (15 - b) = u
    generalize 16 ^ b = v
    simp only [Nat.mul_assoc, Nat.mul_left_comm, Nat.mul_comm]
  rw [e, Nat.add_mul_div_right _ _ (Nat.pow_pos (by decide))]
  omega
theorem dg_val (q : Q) (i : Nat) (hi : i < 64) : (dgW q i).toNat = q.num / 16 ^ i % 16 := by
  obtain ⟨r, hr⟩ := word_high q (i / 16) (by omega)
  have e : (16 : Nat) ^ i = 18446744073709551616 ^ (i / 16) * 16 ^ (i % 16) := by
    rw [show (18446744073709551616 : Nat) = 16 ^ 16 from by decide, ← Nat.pow_mul, ← Nat.pow_add]
    congr 1
    omega
  rw [e, ← Nat.div_div_eq_div_mul, hr, dg_low _ _ _ (by omega)]
  unfold dgW
  rw [BitVec.toNat_and, BitVec.toNat_ushiftRight, Nat.shiftRight_eq_div_pow, show (16 : Nat) ^ (i % 16) = 2 ^ (4 * (i % 16)) by rw [Nat.pow_mul]]
  exact Nat.and_two_pow_sub_one_eq_mod _ 4
theorem dg_step (N d : Nat) (hd : d < 64) : 16 * (N / 16 ^ (64 - d)) + N / 16 ^ (63 - d) % 16 = N / 16 ^ (64 - (d + 1)) := by
  have e : (16 : Nat) ^ (64 - d) = 16 ^ (63 - d) * 16 := by rw [← Nat.pow_succ]; congr 1; omega
  rw [e, ← Nat.div_div_eq_div_mul, show 64 - (d + 1) = 63 - d by omega]
  omega
theorem esum_rep {T : Nat → Q × E} {p : Nat → Pt} (hp : ∀ j, OnP (p j)) (hT : ∀ j, Rep (T j).2 (p j)) (m d : Nat) (hd : d ≤ 64) : Rep (esum T m d) (pS p (fun j => (T j).1.num / 16 ^ (64 - d)) m) := by
  induction d with
  | zero =>
    have hz : ∀ j, (T j).1.num / 16 ^ 64 = 0 := fun j => Nat.div_eq_of_lt (Nat.lt_of_lt_of_le (num_lt _) (by decide))
    have : ∀ m, pS p (fun j => (T j).1.num / 16 ^ (64 - 0)) m = zero := fun m => by
      induction m with
      | zero => rfl
      | succ m ih =>
        show padd (pS p (fun j => (T j).1.num / 16 ^ (64 - 0)) m) (mulP (p m) ((T m).1.num / 16 ^ (64 - 0))) = zero
        rw [ih, show (T m).1.num / 16 ^ (64 - 0) = 0 from hz m]
        exact padd_zero zero
    rw [this]
    exact ezero_rep
  | succ d ih =>
    have h1 := ein_rep hp hT (63 - d) (pS_on hp _ m) (dbl4_rep hp (ih (by omega))) m
    rw [pS_add hp] at h1
    rw [pS_congr (b := fun j => (T j).1.num / 16 ^ (64 - (d + 1))) (fun j => by
      show 16 * ((T j).1.num / 16 ^ (64 - d)) + (dgW (T j).1 (63 - d)).toNat = _
      rw [dg_val _ _ (by omega), dg_step _ _ (by omega)])] at h1
    exact h1
theorem esum_all {T : Nat → Q × E} {p : Nat → Pt} (hp : ∀ j, OnP (p j)) (hT : ∀ j, Rep (T j).2 (p j)) (m : Nat) : Rep (esum T m 64) (pS p (fun j => (T j).1.num) m) := by
  have h := esum_rep hp hT m 64 (Nat.le_refl _)
  rw [pS_congr (b := fun j => (T j).1.num) (fun j => by rw [Nat.sub_self, Nat.pow_zero, Nat.div_one])] at h
  exact h
/-- A point's bytes. -/
def encP (p : Pt) : List UInt8 := leB (enc p.1 p.2) 32
theorem rep_bytes {e : E} {p : Pt} (h : Rep e p) : leB (enc (e.x * inv e.z) (e.y * inv e.z)) 32 = encP p := by
  rw [rep_x h, rep_y h]; rfl
end Cw
end Go.Proofs.YtbojijefenfbgaaDoor
namespace Go.Proofs.YtbojijefenfbgaaDoor
open Go.RowKit
namespace Gw
open Fw Bt Ww Sw Cw Ed
theorem pw_sixteen (e : E) : ∃ v0 v1 v2 v3 v4 v5 v6 v7 v8 v9 v10 v11 v12 v13 v14 v15 : Value, pw e = #[v0, v1, v2, v3, v4, v5, v6, v7, v8, v9, v10, v11, v12, v13, v14, v15] := by
  obtain ⟨a0, a1, a2, a3, ha, _⟩ := fw_four e.x
  obtain ⟨b0, b1, b2, b3, hb, _⟩ := fw_four e.y
  obtain ⟨c0, c1, c2, c3, hc, _⟩ := fw_four e.z
  obtain ⟨d0, d1, d2, d3, hd, _⟩ := fw_four e.t
  refine ⟨a0, a1, a2, a3, b0, b1, b2, b3, c0, c1, c2, c3, d0, d1, d2, d3, ?_⟩
  rw [pw_def, ha, hb, hc, hd]
  rfl
theorem built_tm (q : Q) (e : E) : Tryd.prog.built 97 [(0, .agg q.cells), (1, .agg (pw e))] = some (tw (q, e)) := by
  unfold tw
  obtain ⟨v0, v1, v2, v3, v4, v5, v6, v7, v8, v9, v10, v11, v12, v13, v14, v15, h⟩ := pw_sixteen e
  simp only [h]
  kernel_rfl
theorem y_tm {W : World} {K : Act → Prop} {l : List Oper} {o : Oper} {a : Act} (hg : o.guard = none) (parts : Array (Nat × Operand)) (ho : o.op = .build 97 parts) (q : Q) (e : E) (hf : (parts.map fun (i, x) => (i, a.eval x)).toList = [(0, .agg q.cells), (1, .agg (pw e))])
    (h : Qt.Lex Tryd.prog W K l (a.put o.dst (.agg (tw (q, e))))) : Qt.Lex Tryd.prog W K (o :: l) a := by
  refine Qt.y_val hg (.agg (tw (q, e))) (fun w' _ => ?_) h
  have hr := run_build (P := Tryd.prog) w' 97 (parts.map fun (i, x) => (i, a.eval x)) (tw (q, e)) (by rw [hf]; exact built_tm q e)
  unfold execOp
  simp only [ho, Sem.run_bind, Sem.run_pure, Result.andThen_ok, hr]
/-- A slice written out. -/
theorem l_slice {P : Program} {ops : Array Oper} {rest : List Oper} {o : Oper} {a : Act} {w : World} {Q : Exit → Act → World → Prop} (hg : o.guard = none) (t e : TypeId) (len : Nat) (parts : Array (Nat × Operand)) (ho : o.op = .buildSlice t len parts) (cells : Array Value) (z : Value) (sz by1 : Nat)
    (hu : P.underlying t = some (.slice e)) (h2 : (P.info? e).map (fun i => (i.zero, i.size, i.bytes)) = some (some z, sz, by1)) (hsmall : ¬ len * sz > 2 ^ 24) (hpos : ¬ len * sz = 0)
    (vs : List (Nat × Value)) (hv : (parts.map fun (i, x) => (i, a.eval x)).toList = vs) (hf : Instr.fill (fun i => some (i * sz, sz)) ((Array.range (len * sz)).map (z.cells[· % z.cells.size]!)) vs = some cells)
    (h : ∀ w2 b, w.heap.size ≤ b → w2.heap[b]? = some (.cells cells e (0, 0)) → Below w.heap.size w w2 → wpList P ops Q rest (a.put o.dst (.slice (some ⟨b, 0, none⟩) len len)) w2) : wpList P ops Q (o :: rest) a w := by
  obtain ⟨i, hi, hz0, hz1, hz2⟩ := info_parts h2
  subst hz1
  exact wpList_buildSlice hg t e len parts ho cells i z hu hi hz0 hsmall hpos (by rw [hv]; exact hf) (h _ _ (Nat.le_refl _) (heap_alloc_new _ _) ((Below.refl _ _).alloc (Nat.le_refl _) _))
theorem fill_one (t : Q × E) : Instr.fill (fun i => some (i * 20, 20)) ((Array.range (1 * 20)).map ((Value.agg tmZero).cells[· % (Value.agg tmZero).cells.size]!)) [(0, .agg (tw t))] = some (tw t) := by
  unfold tw
  obtain ⟨v0, v1, v2, v3, v4, v5, v6, v7, v8, v9, v10, v11, v12, v13, v14, v15, h⟩ := pw_sixteen t.2
  simp only [h]
  kernel_rfl
theorem fill_two (t u : Q × E) : Instr.fill (fun i => some (i * 20, 20)) ((Array.range (2 * 20)).map ((Value.agg tmZero).cells[· % (Value.agg tmZero).cells.size]!)) [(0, .agg (tw t)), (1, .agg (tw u))] = some (tw t ++ tw u) := by
  unfold tw
  obtain ⟨v0, v1, v2, v3, v4, v5, v6, v7, v8, v9, v10, v11, v12, v13, v14, v15, h⟩ := pw_sixteen t.2
  obtain ⟨u0, u1, u2, u3, u4, u5, u6, u7, u8, u9, u10, u11, u12, u13, u14, u15, h'⟩ := pw_sixteen u.2
  simp only [h, h']
  kernel_rfl
theorem range_one {w : World} {b : Nat} {t : Q × E} (h : w.heap[b]? = some (.cells (tw t) 97 (0, 0))) : ∀ j, j < 1 → w.rangeAt b (j * 20) (tw t).toList := fun j hj n v hv => by
  obtain rfl : j = 0 := by omega
  rw [cell_of_row w b _ _ _ _ h]
  simpa using hv
set_option maxRecDepth 100000 in
set_option maxHeartbeats 1000000 in
theorem timesBase_f (n : Q) (w : World) : Calls Tryd.prog 42 #[.agg n.cells] w fun e w' => e = .returned (.string ⟨(encP (mulP bP n.num)).toArray⟩) ∧ Below w.heap.size w w' := by
  obtain ⟨e, he⟩ : ∃ e, e = esum (fun _ => (n, aff bX bY)) 1 64 := ⟨_, rfl⟩
  have Hsum : Hid (∀ tb w, tb < w.heap.size → (∀ j, j < 1 → w.rangeAt tb (j * 20) (tw (n, aff bX bY)).toList) → Calls Tryd.prog 58 #[.slice (some ⟨tb, 0, none⟩) 1 1] w fun e' w' => e' = .returned (.agg (pw e)) ∧ Below w.heap.size w w') := by
    intro tb w h1 h2
    rw [he]
    exact sum_p tb 1 (by decide) (fun _ => (n, aff bX bY)) w h1 h2
  have Hb : Hid (leB (enc (e.x * inv e.z) (e.y * inv e.z)) 32 = encP (mulP bP n.num)) := by
    have h := esum_all (T := fun _ => (n, aff bX bY)) (p := fun _ => bP) (fun _ => bP_on) (fun _ => aff_rep bX bY) 1
    rw [← he] at h
    have h2 : pS (fun _ => bP) (fun _ => n.num) 1 = mulP bP n.num := zero_padd _
    rw [show (fun j => ((fun _ => (n, aff bX bY)) j : Q × E).1.num) = fun _ => n.num from rfl, h2] at h
    exact rep_bytes h
  have Hby : Hid (∀ w, Calls Tryd.prog 61 #[.agg (pw e)] w fun e' w' => e' = .returned (.string ⟨(encP (mulP bP n.num)).toArray⟩) ∧ Below w.heap.size w w') := by
    intro w
    have h := ptBytes_f e w
    rw [Hb.out] at h
    exact h
  clear he Hb
  obtain ⟨ss, hss⟩ : ∃ ss, ss = (encP (mulP bP n.num)).toArray := ⟨_, rfl⟩
  rw [← hss] at Hby ⊢
  clear hss
  have HN : Hid (NAt (w.alloc (.cells n.cells 74)) w.heap.size n) := alloc_at _ _ _ rfl
  have HB : Hid (Below w.heap.size w (w.alloc (.cells n.cells 74))) := (Below.refl _ _).alloc (Nat.le_refl _) _
  go_enter Tryd.func42, Tryd.ntmps42
  go_wp2_with fail
  refine Qt.wp_tail 3 (by kernel_rfl) (by kernel_rfl) ?_
  refine y_n rfl _ rfl w.heap.size n rfl HN.out ?_
  refine Qt.y_call rfl 59 #[] (.agg (pw (aff bX bY))) (fun _ => by kernel_rfl) (fun w' _ => base_p w') ?_
  simp only [Act.put, List.setIfInBounds_toArray, List.set_cons_zero, List.set_cons_succ]
  refine y_tm rfl _ rfl n (aff bX bY) (by kernel_rfl) ?_
  simp only [Act.put, List.setIfInBounds_toArray, List.set_cons_zero, List.set_cons_succ]
  refine Qt.y_nil ?_
  intro w1 hb1
  have HX1 : Hid (Below (w.alloc (.cells n.cells 74)).heap.size (w.alloc (.cells n.cells 74)) w1) := hb1
  have HB1 : Hid (Below w.heap.size w w1) := HB.out.trans (HX1.out.mono HB.out.size)
  clear hb1 HX1
  refine l_slice rfl 114 97 1 _ rfl (tw (n, aff bX bY)) (.agg tmZero) 20 160 Tryd.underlying114 (by kernel_rfl) (by decide) (by decide) [(0, .agg (tw (n, aff bX bY)))] (by kernel_rfl) (fill_one _) ?_
  intro w2 b2 hle hW hb2
  have HX2 : Hid (Below w1.heap.size w1 w2) := hb2
  have HR2 : Hid (∀ j, j < 1 → w2.rangeAt b2 (j * 20) (tw (n, aff bX bY)).toList) := range_one hW
  have HL2 : Hid (b2 < w2.heap.size) := (Array.getElem?_eq_some_iff.1 hW).1
  have HB2 : Hid (Below w.heap.size w w2) := HB1.out.trans (HX2.out.mono HB1.out.size)
  clear hle hW hb2 HX2 HB1
  simp only [Act.put, List.setIfInBounds_toArray, List.set_cons_zero, List.set_cons_succ]
  refine l_call rfl 58 #[.slice (some ⟨b2, 0, none⟩) 1 1] (.agg (pw e)) (fun _ => by kernel_rfl) (Hsum.out b2 w2 HL2.out HR2.out) ?_
  intro w3 hb3
  refine l_call rfl 61 #[.agg (pw e)] (.string ⟨ss⟩) (fun _ => by kernel_rfl) (Hby.out w3) ?_
  intro w4 hb4
  have HB4 : Hid (Below w.heap.size w w4) := (HB2.out.trans (hb3.mono HB2.out.size)).trans (hb4.mono (Nat.le_trans HB2.out.size hb3.size))
  clear hb3 hb4
  simp only [Act.put, List.setIfInBounds_toArray, List.set_cons_zero, List.set_cons_succ]
  go_wp2_with fail
  exact bodyPost_ret (v := .string ⟨ss⟩) (by simp [results, Tryd.results42, go_sem]) rfl ⟨rfl, HB4.out⟩
end Gw
end Go.Proofs.YtbojijefenfbgaaDoor
