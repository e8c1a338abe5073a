/- Walks of the program's signing: Right. -/
/- Walk of the document's long. -/
import Derived.Test.YtbojijefenfbgaaGreatDoorTkSignB
import Derived.Test.YtbojijefenfbgaaGreatDoorTkQRel
import Derived.Test.YtbojijefenfbgaaGreatDoorTkDocN
namespace Go.Proofs.YtbojijefenfbgaaGreatDoor
open Go.RowKit
namespace Gw
open Fw Bt Ww Sw Cw Ed
def TU (s k : Q) (B A : E) (j : Nat) : Q × E := if j = 0 then (s, B) else (k, A)
def TT (s k : Q) (A : E) : Nat → Q × E := TU s k (aff bX bY) (eneg A)
def sumE (s k : Q) (A : E) : E := esum (TT s k A) 2 64
noncomputable def sumY (s k : Q) (A : E) : List UInt8 := leB (enc ((sumE s k A).x * inv (sumE s k A).z) ((sumE s k A).y * inv (sumE s k A).z)) 32
/-- What Right answers. -/
noncomputable def rightE (k t g : List UInt8) : Bool :=
  if k.length = 32 ∧ g.length = 64 then
    if le (g.drop 32) < LL then
      if (decF k).2 = true then decide (sumY (bq (g.drop 32)) (nq (kN (g.take 32) k t)) (decF k).1 = g.take 32) else false
    else false
  else false
theorem rel_lex {P : Program} {w : World} {o : Oper} {a : Act} {v0 : Value} (d : Tmp) (hd : o.dst = some d) (hsz : d < a.tmps.size) (h : Qt.Lex P w (fun a' => a'.eval (.tmp d) = v0) [o] a) : Qt.UponR P w (fun v _ => v = v0) ((execOp a.eval o).run P w) := by
  obtain ⟨v, hy, hk⟩ := h
  have hk' : (a.put o.dst v).eval (.tmp d) = v0 := hk
  have hv : v = v0 := by
    rw [hd] at hk'
    simpa [Act.put, Act.eval, hsz] using hk'
  have h1 := hy.2 w (Below.refl _ _)
  subst hv
  generalize (execOp a.eval o).run P w = r at h1
  cases r with
  | halt x w' => cases h1
  | ok x w' =>
    cases x with
    | value u =>
      obtain ⟨e1, e2⟩ := h1
      subst e1 e2
      exact ⟨rfl, Below.refl _ _⟩
    | enter f args =>
      obtain ⟨e1, hc⟩ := h1
      subst e1
      exact Calls.mono hc fun e w'' ⟨he, hb⟩ => ⟨v, he, rfl, hb⟩
    | _ => cases h1
theorem rel_alloc {P : Program} {w : World} {o : Oper} {a : Act} {R : Value → World → Prop} (t : TypeId) (hop : o.op = Op.alloc t) (zs : Array Value) (h2 : (P.info? t).map (fun i => i.zero) = some (some (.agg zs)))
    (h : R (.pointer (some ⟨w.heap.size, 0, none⟩)) (w.alloc (.cells zs t))) : Qt.UponR P w R ((execOp a.eval o).run P w) := by
  obtain ⟨i, hi, hz⟩ := Option.map_eq_some_iff.1 h2
  have hz' : i.zero = some (.agg zs) := hz
  have hr : (execOp a.eval o).run P w = .ok (.value (.pointer (some ⟨w.heap.size, 0, none⟩))) (w.alloc (.cells zs t)) := by
    simp [execOp, hop, Instr.alloc, zeroValue, typeInfo, hi, hz', newVar, newRow, Value.cells, Result.andThen]
  rw [hr]
  exact ⟨h, (Below.refl _ _).alloc (Nat.le_refl _) _⟩
theorem rel_slice {P : Program} {w : World} {o : Oper} {a : Act} {R : Value → World → Prop} (t e : TypeId) (len : Nat) (parts : Array (Nat × Operand)) (ho : o.op = .buildSlice t len parts) (cells : Array Value) (z : Value) (sz by1 : Nat)
    (hu : P.underlying t = some (.slice e)) (h2 : (P.info? e).map (fun i => (i.zero, i.size, i.bytes)) = some (some z, sz, by1)) (hsmall : ¬ len * sz > 2 ^ 24) (hpos : ¬ len * sz = 0)
    (vs : List (Nat × Value)) (hv : (parts.map fun (i, x) => (i, a.eval x)).toList = vs) (hf : Instr.fill (fun i => some (i * sz, sz)) ((Array.range (len * sz)).map (z.cells[· % z.cells.size]!)) vs = some cells)
    (h : R (.slice (some ⟨w.heap.size, 0, none⟩) len len) (w.alloc (.cells cells e))) : Qt.UponR P w R ((execOp a.eval o).run P w) := by
  obtain ⟨i, hi, hz0, hz1, hz2⟩ := info_parts h2
  subst hz1
  have hr := run_buildSlice (P := P) w t e len (parts.map fun (i, x) => (i, a.eval x)) cells i z hu hi hz0 hsmall hpos (by rw [hv]; exact hf)
  unfold execOp
  simp only [ho, Sem.run_bind, Sem.run_pure, Result.andThen_ok, hr]
  exact ⟨h, (Below.refl _ _).alloc (Nat.le_refl _) _⟩
/-- What lasts of the values of the region of the sum. -/
def RR (B : Nat) (q kq : Q) (Bp A A' e : E) : Nat → Value → World → Prop
  | 0, v, _ => v = .agg q.cells
  | 1, v, _ => v = .agg (pw Bp)
  | 2, v, _ => v = .agg (tw (q, Bp))
  | 3, v, _ => v = .agg kq.cells
  | 4, v, _ => v = .agg (pw A)
  | 5, v, _ => v = .agg (pw A')
  | 6, v, _ => v = .agg (tw (kq, A'))
  | 7, v, w => ∃ b, v = .slice (some ⟨b, 0, none⟩) 2 2 ∧ b < w.heap.size ∧ ∀ j, j < 2 → w.rangeAt b (j * 20) (tw (TU q kq Bp A' j)).toList
  | 8, v, _ => v = .agg (pw e)
  | 9, v, w => ∃ b, v = .pointer (some ⟨b, 0, none⟩) ∧ B ≤ b ∧ PAt w b e0
  | _, _, _ => True
theorem RR_lasts (B : Nat) (q kq : Q) (Bp A A' e : E) (j : Nat) (u : Value) (w w' : World) (h : RR B q kq Bp A A' e j u w) (hb : Below w.heap.size w w') : RR B q kq Bp A A' e j u w' := by
  rcases j with _ | _ | _ | _ | _ | _ | _ | _ | _ | _ | j
  case succ.succ.succ.succ.succ.succ.succ.zero =>
    obtain ⟨b, h1, h2, h3⟩ := h
    exact ⟨b, h1, Nat.lt_of_lt_of_le h2 hb.size, fun j hj n v hv => by rw [hb.cell (by exact h2)]; exact h3 j hj n v hv⟩
  case succ.succ.succ.succ.succ.succ.succ.succ.succ.zero =>
    obtain ⟨b, h1, h2, h3⟩ := h
    exact ⟨b, h1, h2, h3.below hb h3.lt⟩
  all_goals exact h
theorem range_arr {w : World} {b : Nat} {X Y : Array Value} {T : TypeId} (hX : X.size = 20) (_hY : Y.size = 20) (h : w.heap[b]? = some (.cells (X ++ Y) T (0, 0))) : w.rangeAt b 0 X.toList ∧ w.rangeAt b 20 Y.toList := by
  refine ⟨fun n v hv => ?_, fun n v hv => ?_⟩
  · rw [cell_of_row w b _ _ _ _ h]
    have hn : n < X.size := by simpa using (List.getElem?_eq_some_iff.1 hv).1
    rw [Array.getElem?_append_left (by omega)]
    simpa using hv
  · rw [cell_of_row w b _ _ _ _ h]
    rw [Array.getElem?_append_right (by omega), hX, show 20 + n - 20 = n by omega]
    simpa using hv
theorem range_two {w : World} {b : Nat} {q kq : Q} {Bp A' : E} (h : w.heap[b]? = some (.cells (tw (q, Bp) ++ tw (kq, A')) 192 (0, 0))) : ∀ j, j < 2 → w.rangeAt b (j * 20) (tw (TU q kq Bp A' j)).toList := fun j hj => by
  have h1 := range_arr (tw_size _) (tw_size _) h
  obtain rfl | rfl : j = 0 ∨ j = 1 := by omega
  · exact h1.1
  · exact h1.2
set_option maxRecDepth 100000 in
set_option maxHeartbeats 1000000 in
theorem right_f (k t g : List UInt8) (htl : t.length ≤ 900000000) (w : World) (ht : Hs.TabAt w) : Calls Tryz.prog 52 #[.string ⟨k.toArray⟩, .string ⟨t.toArray⟩, .string ⟨g.toArray⟩] w fun e w' => e = .returned (.bool (rightE k t g)) ∧ Below w.heap.size w w' := by
  by_cases hl : k.length = 32 ∧ g.length = 64
  · have hk : (k.length : Int) = 32 := by omega
    have hg : (g.length : Int) = 64 := by omega
    have hg' : g.length = 64 := hl.2
    have Hk : Hid (k.length = 32) := hl.1
    have HV : Hid (rightE k t g = if le (g.drop 32) < LL then if (decF k).2 = true then decide (sumY (bq (g.drop 32)) (nq (kN (g.take 32) k t)) (decF k).1 = g.take 32) else false else false) := if_pos hl
    have Ht : Hid (Hs.TabAt w) := ht
    have hx1 := ext_str g 0 32
    have hx2 := ext_str g 32 64
    clear ht hl
    go_enter Tryz.func52, Tryz.ntmps52
    obtain ⟨R, hRd⟩ : ∃ R, R = g.take 32 := ⟨_, rfl⟩
    obtain ⟨gs, hgs⟩ : ∃ s, s = g.drop 32 := ⟨_, rfl⟩
    have hgl : gs.length = 32 := by rw [hgs]; simp; omega
    have hRl : R.length = 32 := by rw [hRd]; simp; omega
    have hx1' : (⟨g.toArray⟩ : ByteArray).extract 0 32 = ⟨R.toArray⟩ := by rw [hx1, hRd]; rfl
    have hx2' : (⟨g.toArray⟩ : ByteArray).extract 32 64 = ⟨gs.toArray⟩ := by rw [hx2, ← hgs, List.take_of_length_le (by omega)]
    clear hx1 hx2
    rw [← hRd, ← hgs] at HV
    clear hRd hgs
    obtain ⟨q, hq⟩ : ∃ q, q = bq gs := ⟨_, rfl⟩
    have Hqn : Hid (q.num = le gs) := by rw [hq]; exact bq_num _ (by omega)
    have Hfb : Hid (∀ w, Calls Tryz.prog 105 #[.string ⟨gs.toArray⟩] w fun e w' => e = .returned (.agg q.cells) ∧ Below w.heap.size w w') := by
      intro w
      have h := fromBytes_f gs (by omega) w
      rw [List.take_of_length_le (by omega), ← hq] at h
      exact h
    rw [← hq] at HV
    clear hq
    obtain ⟨qL, hqL⟩ : ∃ q, q = nq LL := ⟨_, rfl⟩
    obtain ⟨lt, hlt⟩ : ∃ b, b = decide (le gs < LL) := ⟨_, rfl⟩
    have Hor : Hid (∀ w, Calls Tryz.prog 107 #[] w fun e w' => e = .returned (.agg qL.cells) ∧ Below w.heap.size w w') := by rw [hqL]; exact order_f
    have Hbl : Hid (∀ w, Calls Tryz.prog 106 #[.agg q.cells, .agg qL.cells] w fun e w' => e = .returned (.bool lt) ∧ Below w.heap.size w w') := by
      intro w
      have h := below_f q qL w
      rw [Hqn.out, hqL, nq_num (by decide), ← hlt, ← hqL] at h
      exact h
    obtain ⟨A, hA⟩ : ∃ A, A = (decF k).1 := ⟨_, rfl⟩
    obtain ⟨ok, hok⟩ : ∃ b, b = (decF k).2 := ⟨_, rfl⟩
    have Hpf : Hid (∀ w, Calls Tryz.prog 85 #[.string ⟨k.toArray⟩] w fun e w' => e = .returned (.tuple #[.agg (pw A), .bool ok]) ∧ Below w.heap.size w w') := by
      intro w
      have h := ptFrom_f k w
      rw [← hA, ← hok] at h
      exact h
    obtain ⟨h2, hh2⟩ : ∃ h, h = Sha.sha (R ++ (k ++ t)) := ⟨_, rfl⟩
    have Hof2 : Hid (∀ w, Hs.TabAt w → Calls Tryz.prog 109 #[.slice (some ⟨w.heap.size, 0, none⟩) 3 3] (w.alloc (.cells #[.string ⟨R.toArray⟩, .string ⟨k.toArray⟩, .string ⟨t.toArray⟩] 9)) fun e w' => e = .returned (.string ⟨h2.toArray⟩) ∧ Below w.heap.size w w') := by
      intro w ht
      have h := of_new [R, k, t] w ht (by have := Hk.out; simp; omega) (by simp)
      rw [show [R, k, t].flatten = R ++ (k ++ t) by simp, ← hh2] at h
      exact h
    obtain ⟨kq, hkq⟩ : ∃ q, q = nq (kN R k t) := ⟨_, rfl⟩
    have Hfh2 : Hid (∀ w, Calls Tryz.prog 108 #[.string ⟨h2.toArray⟩] w fun e w' => e = .returned (.agg kq.cells) ∧ Below w.heap.size w w') := by
      intro w
      have h := fromHash_f h2 (by rw [hh2]; exact sha_len _) w
      rw [show le h2 % LL = kN R k t by rw [hh2, ← List.append_assoc]; rfl, ← hkq] at h
      exact h
    rw [← hkq, ← hA, ← hok] at HV
    obtain ⟨e, he⟩ : ∃ e, e = sumE q kq A := ⟨_, rfl⟩
    obtain ⟨sb, hsb⟩ : ∃ s, s = sumY q kq A := ⟨_, rfl⟩
    have Hby : Hid (∀ w, Calls Tryz.prog 113 #[.agg (pw e)] w fun e' w' => e' = .returned (.string ⟨sb.toArray⟩) ∧ Below w.heap.size w w') := by
      intro w
      have h := ptBytes_f e w
      rw [show leB (enc (e.x * inv e.z) (e.y * inv e.z)) 32 = sb by rw [hsb, he]; rfl] at h
      exact h
    obtain ⟨Bp, hBp⟩ : ∃ B, B = aff bX bY := ⟨_, rfl⟩
    obtain ⟨A', hA'⟩ : ∃ B, B = eneg A := ⟨_, rfl⟩
    have Hbase : Hid (∀ w, Calls Tryz.prog 111 #[] w fun e w' => e = .returned (.agg (pw Bp)) ∧ Below w.heap.size w w') := by rw [hBp]; exact base_p
    have Hneg : Hid (∀ w, Calls Tryz.prog 112 #[.agg (pw A)] w fun e w' => e = .returned (.agg (pw A')) ∧ Below w.heap.size w w') := by rw [hA']; exact neg_p A
    have Hsum : Hid (∀ tb w, tb < w.heap.size → (∀ j, j < 2 → w.rangeAt tb (j * 20) (tw (TU q kq Bp A' j)).toList) → Calls Tryz.prog 110 #[.slice (some ⟨tb, 0, none⟩) 2 2] w fun e' w' => e' = .returned (.agg (pw e)) ∧ Below w.heap.size w w') := by
      intro tb w h1 h2
      rw [he]
      rw [hBp, hA'] at h2
      exact sum_p tb 2 (by decide) (TT q kq A) w h1 h2
    rw [← hsb] at HV
    have HV2 : Hid (rightE k t g = if lt = true then if ok = true then decide (sb = R) else false else false) := by
      show _ = _
      rw [HV.out, hlt]
      simp only [decide_eq_true_eq]
    rw [HV2.out]
    clear HV HV2 hqL hlt hA hok hh2 hkq he hsb Hqn hBp hA'
    go_wp2_with fail
    refine (Hfb.out _).mono ?_
    rintro e' w1 ⟨rfl, hb1⟩
    have HB1 : Hid (Below w.heap.size w w1) := hb1
    clear hb1
    go_wp2_with (refine l_declN rfl rfl rfl rfl q (fun _ => rfl) (fun _ => rfl) ?_)
    intro w2 bq2 hle hW hb2
    have HQ2 : Hid (NAt w2 bq2 q) := hW
    have HB2 : Hid (Below w.heap.size w w2) := HB1.out.trans (hb2.mono HB1.out.size)
    clear hle hW hb2 HB1
    go_wp2_with fail
    refine Qt.wp_all (by kernel_rfl) (by kernel_rfl) ?_
    refine y_n rfl _ rfl bq2 q rfl HQ2.out ?_
    refine Qt.y_call rfl 107 #[] (.agg qL.cells) (fun _ => by kernel_rfl) (fun w' _ => Hor.out w') ?_
    simp only [Act.put, List.setIfInBounds_toArray, List.set_cons_zero, List.set_cons_succ]
    refine Qt.y_call rfl 106 #[.agg q.cells, .agg qL.cells] (.bool lt) (fun _ => by kernel_rfl) (fun w' _ => Hbl.out w') ?_
    simp only [Act.put, List.setIfInBounds_toArray, List.set_cons_zero, List.set_cons_succ]
    refine Qt.y_val rfl ((.bool (!lt))) (fun _ _ => by kernel_rfl) ?_
    simp only [Act.put, List.setIfInBounds_toArray, List.set_cons_zero, List.set_cons_succ]
    refine Qt.y_nil ?_
    intro w3 hb3
    have HX3 : Hid (Below w2.heap.size w2 w3) := hb3
    have HQ3 : Hid (NAt w3 bq2 q) := HQ2.out.below HX3.out HQ2.out.lt
    have HB3 : Hid (Below w.heap.size w w3) := HB2.out.trans (HX3.out.mono HB2.out.size)
    clear hb3 HX3 HQ2 HB2
    cases lt with
    | false =>
      go_wp2_with fail
      exact bodyPost_ret (v := .bool false) (by simp [results, Tryz.results52, go_sem]) rfl ⟨rfl, HB3.out⟩
    | true =>
      go_wp2_with fail
      refine (Hpf.out _).mono ?_
      rintro e' w4 ⟨rfl, hb4⟩
      have HX4 : Hid (Below w3.heap.size w3 w4) := hb4
      have HQ4 : Hid (NAt w4 bq2 q) := HQ3.out.below HX4.out HQ3.out.lt
      have HB4 : Hid (Below w.heap.size w w4) := HB3.out.trans (HX4.out.mono HB3.out.size)
      clear hb4 HX4 HQ3 HB3
      go_wp2_with (refine l_declP rfl rfl rfl rfl A (fun _ => rfl) (fun _ => rfl) ?_)
      intro w5 ba hle hW hb5
      have HX5 : Hid (Below w4.heap.size w4 w5) := hb5
      have HA5 : Hid (PAt w5 ba A) := hW
      have HQ5 : Hid (NAt w5 bq2 q) := HQ4.out.below HX5.out HQ4.out.lt
      have HB5 : Hid (Below w.heap.size w w5) := HB4.out.trans (HX5.out.mono HB4.out.size)
      clear hle hW hb5 HX5 HQ4 HB4
      cases ok with
      | false =>
        go_wp2_with fail
        exact bodyPost_ret (v := .bool false) (by simp [results, Tryz.results52, go_sem]) rfl ⟨rfl, HB5.out⟩
      | true =>
        have Ht5 : Hid (Hs.TabAt w5) := Ht.out.below HB5.out Ht.out.lt
        go_wp2_with fail
        refine (Hof2.out w5 Ht5.out).mono ?_
        rintro e' w6 ⟨rfl, hb6⟩
        have HX6 : Hid (Below w5.heap.size w5 w6) := hb6
        have HA6 : Hid (PAt w6 ba A) := HA5.out.below HX6.out HA5.out.lt
        have HQ6 : Hid (NAt w6 bq2 q) := HQ5.out.below HX6.out HQ5.out.lt
        have HB6 : Hid (Below w.heap.size w w6) := HB5.out.trans (HX6.out.mono HB5.out.size)
        clear hb6 HX6 HQ5 HA5 HB5 Ht5
        go_wp2_with fail
        refine (Hfh2.out _).mono ?_
        rintro e' w7 ⟨rfl, hb7⟩
        have HX7 : Hid (Below w6.heap.size w6 w7) := hb7
        have HA7 : Hid (PAt w7 ba A) := HA6.out.below HX7.out HA6.out.lt
        have HQ7 : Hid (NAt w7 bq2 q) := HQ6.out.below HX7.out HQ6.out.lt
        have HB7 : Hid (Below w.heap.size w w7) := HB6.out.trans (HX7.out.mono HB6.out.size)
        clear hb7 HX7 HQ6 HA6 HB6
        go_wp2_with (refine l_declN rfl rfl rfl rfl kq (fun _ => rfl) (fun _ => rfl) ?_)
        intro w8 bk hle hW hb8
        have HX8 : Hid (Below w7.heap.size w7 w8) := hb8
        have HK8 : Hid (NAt w8 bk kq) := hW
        have HA8 : Hid (PAt w8 ba A) := HA7.out.below HX8.out HA7.out.lt
        have HQ8 : Hid (NAt w8 bq2 q) := HQ7.out.below HX8.out HQ7.out.lt
        have HB8 : Hid (Below w.heap.size w w8) := HB7.out.trans (HX8.out.mono HB7.out.size)
        clear hle hW hb8 HX8 HQ7 HA7 HB7
        go_wp2_with fail
        refine Qt.wp_rel 10 (RR w8.heap.size q kq Bp A A' e) (by kernel_rfl) (by kernel_rfl) (RR_lasts _ _ _ _ _ _ _) ?_ ?_
        · intro i o hi ho U w' hb hd
          have HQ : Hid (NAt w' bq2 q) := HQ8.out.below hb HQ8.out.lt
          have HA : Hid (PAt w' ba A) := HA8.out.below hb HA8.out.lt
          have HK : Hid (NAt w' bk kq) := HK8.out.below hb HK8.out.lt
          have HS : Hid (w8.heap.size ≤ w'.heap.size) := hb.size
          clear HQ8 HA8 HK8 HB8 hb
          simp only [Qt.fullA, List.take_succ_cons, List.take_zero, Act.put, List.setIfInBounds_toArray, List.set_cons_zero, List.set_cons_succ]
          rcases i with _ | _ | _ | _ | _ | _ | _ | _ | _ | _ | i
          · obtain rfl := Option.some.inj ho
            refine rel_lex 43 rfl (Nat.le_of_ble_eq_true (by kernel_rfl)) ?_
            refine y_n rfl _ rfl bq2 q rfl HQ.out ?_
            exact rfl
          · obtain rfl := Option.some.inj ho
            refine rel_lex 44 rfl (Nat.le_of_ble_eq_true (by kernel_rfl)) ?_
            refine Qt.y_call rfl 111 #[] (.agg (pw Bp)) (fun _ => by kernel_rfl) (fun w' _ => Hbase.out w') ?_
            exact rfl
          · obtain rfl := Option.some.inj ho
            have h0 : U 0 = .agg q.cells := hd 0 (by decide) (by kernel_rfl)
            have h1 : U 1 = .agg (pw Bp) := hd 1 (by decide) (by kernel_rfl)
            rw [h0, h1]
            refine rel_lex 45 rfl (Nat.le_of_ble_eq_true (by kernel_rfl)) ?_
            refine y_tm rfl _ rfl q Bp (by kernel_rfl) ?_
            exact rfl
          · obtain rfl := Option.some.inj ho
            refine rel_lex 46 rfl (Nat.le_of_ble_eq_true (by kernel_rfl)) ?_
            refine y_n rfl _ rfl bk kq rfl HK.out ?_
            exact rfl
          · obtain rfl := Option.some.inj ho
            refine rel_lex 47 rfl (Nat.le_of_ble_eq_true (by kernel_rfl)) ?_
            refine y_pt rfl _ rfl ba A rfl HA.out ?_
            exact rfl
          · obtain rfl := Option.some.inj ho
            have h4 : U 4 = .agg (pw A) := hd 4 (by decide) (by kernel_rfl)
            rw [h4]
            refine rel_lex 48 rfl (Nat.le_of_ble_eq_true (by kernel_rfl)) ?_
            refine Qt.y_call rfl 112 #[.agg (pw A)] (.agg (pw A')) (fun _ => by kernel_rfl) (fun w' _ => Hneg.out w') ?_
            exact rfl
          · obtain rfl := Option.some.inj ho
            have h3 : U 3 = .agg kq.cells := hd 3 (by decide) (by kernel_rfl)
            have h5 : U 5 = .agg (pw A') := hd 5 (by decide) (by kernel_rfl)
            rw [h3, h5]
            refine rel_lex 49 rfl (Nat.le_of_ble_eq_true (by kernel_rfl)) ?_
            refine y_tm rfl _ rfl kq A' (by kernel_rfl) ?_
            exact rfl
          · obtain rfl := Option.some.inj ho
            have h2 : U 2 = .agg (tw (q, Bp)) := hd 2 (by decide) (by kernel_rfl)
            have h6 : U 6 = .agg (tw (kq, A')) := hd 6 (by decide) (by kernel_rfl)
            rw [h2, h6]
            refine rel_slice 274 192 2 _ rfl (tw (q, Bp) ++ tw (kq, A')) (.agg tmZero) 20 160 Tryz.underlying274 (by kernel_rfl) (by decide) (by decide) [(0, .agg (tw (q, Bp))), (1, .agg (tw (kq, A')))] (by kernel_rfl) (fill_two _ _) ?_
            exact ⟨w'.heap.size, rfl, by simp, range_two (heap_alloc_new _ _)⟩
          · obtain rfl := Option.some.inj ho
            obtain ⟨b, h7, h71, h72⟩ : ∃ b, U 7 = .slice (some ⟨b, 0, none⟩) 2 2 ∧ b < w'.heap.size ∧ ∀ j, j < 2 → w'.rangeAt b (j * 20) (tw (TU q kq Bp A' j)).toList := hd 7 (by decide) (by kernel_rfl)
            rw [h7]
            refine rel_lex 51 rfl (Nat.le_of_ble_eq_true (by kernel_rfl)) ?_
            refine Qt.y_call rfl 110 #[.slice (some ⟨b, 0, none⟩) 2 2] (.agg (pw e)) (fun _ => by kernel_rfl) (fun w'' hb => Hsum.out b w'' (Nat.lt_of_lt_of_le h71 hb.size) (fun j hj n v hv => by rw [hb.cell (by exact h71)]; exact h72 j hj n v hv)) ?_
            exact rfl
          · obtain rfl := Option.some.inj ho
            refine rel_alloc 163 rfl ptZero (by kernel_rfl) ?_
            exact ⟨w'.heap.size, rfl, HS.out, by rw [← pw_zero]; exact heap_alloc_new _ _⟩
          · omega
        · intro U w9 hb9 hd
          have h0 : U 0 = .agg q.cells := hd 0 (by decide)
          have h1 : U 1 = .agg (pw Bp) := hd 1 (by decide)
          have h2 : U 2 = .agg (tw (q, Bp)) := hd 2 (by decide)
          have h3 : U 3 = .agg kq.cells := hd 3 (by decide)
          have h4 : U 4 = .agg (pw A) := hd 4 (by decide)
          have h5 : U 5 = .agg (pw A') := hd 5 (by decide)
          have h6 : U 6 = .agg (tw (kq, A')) := hd 6 (by decide)
          obtain ⟨b7, h7, -, -⟩ : ∃ b, U 7 = .slice (some ⟨b, 0, none⟩) 2 2 ∧ b < w9.heap.size ∧ ∀ j, j < 2 → w9.rangeAt b (j * 20) (tw (TU q kq Bp A' j)).toList := hd 7 (by decide)
          have h8 : U 8 = .agg (pw e) := hd 8 (by decide)
          obtain ⟨b9, h9, hle, hP⟩ : ∃ b, U 9 = .pointer (some ⟨b, 0, none⟩) ∧ w8.heap.size ≤ b ∧ PAt w9 b e0 := hd 9 (by decide)
          simp only [Qt.fullA, List.take_succ_cons, List.take_zero, List.drop_succ_cons, List.drop_zero, Act.put, List.setIfInBounds_toArray, List.set_cons_zero, List.set_cons_succ, h0, h1, h2, h3, h4, h5, h6, h7, h8, h9]
          clear h0 h1 h2 h3 h4 h5 h6 h7 h8 h9 hd
          refine store_p rfl _ _ rfl b9 e e0 rfl rfl hP ?_
          have HP : Hid (PAt (w9.setRow b9 (pw e)) b9 e) := hP.setRow e
          have HB : Hid (Below w.heap.size w (w9.setRow b9 (pw e))) := (HB8.out.trans (hb9.mono HB8.out.size)).trans ((below_setRow _ _ _).mono (Nat.le_trans HB8.out.size hle))
          clear hP hle hb9
          obtain ⟨wx, hwx⟩ : ∃ wx, wx = w9.setRow b9 (pw e) := ⟨_, rfl⟩
          rw [← hwx] at HP HB ⊢
          clear hwx
          refine Qt.done ?_
          simp only [Act.put]
          go_wp2_with (refine load_p rfl _ rfl b9 e rfl HP.out ?_)
          refine (Hby.out _).mono ?_
          rintro e' wy ⟨rfl, hby⟩
          have HBy : Hid (Below w.heap.size w wy) := HB.out.trans (hby.mono HB.out.size)
          clear hby
          go_wp2_with fail
          have hbeq : (sb == R) = decide (sb = R) := by by_cases h : sb = R <;> simp [h]
          exact bodyPost_ret (v := .bool (sb == R)) (by simp [results, Tryz.results52, go_sem]) rfl ⟨by rw [hbeq], HBy.out⟩
  · have hln : ¬ ((k.length : Int) = 32 ∧ (g.length : Int) = 64) := by omega
    have HV : Hid (rightE k t g = false) := if_neg hl
    rw [HV.out]
    by_cases hk : (k.length : Int) = 32
    · have hg : ¬ (g.length : Int) = 64 := fun h => hln ⟨hk, h⟩
      clear hl hln
      go_enter Tryz.func52, Tryz.ntmps52
      go_wp2_with fail
      exact bodyPost_ret (v := .bool false) (by simp [results, Tryz.results52, go_sem]) rfl ⟨rfl, Below.refl _ _⟩
    · clear hl hln
      go_enter Tryz.func52, Tryz.ntmps52
      go_wp2_with fail
      exact bodyPost_ret (v := .bool false) (by simp [results, Tryz.results52, go_sem]) rfl ⟨rfl, Below.refl _ _⟩
end Gw
end Go.Proofs.YtbojijefenfbgaaGreatDoor
namespace Go.Proofs.YtbojijefenfbgaaGreatDoor
open Go.RowKit
namespace Dc
open Bt Ed Cw
theorem info_int : (Tryz.prog.info? 3).map (fun i => (i.zero, i.size, i.bytes)) = some (some (.int .i64 0), 1, 8) := by kernel_rfl
theorem one_slice {w : World} {o : Oper} {a : Act} {B : Nat} (x : Operand) (ho : o.op = .buildSlice 25 1 #[(0, x)]) (v : Int) (hx : a.eval x = .int .i64 v) (hB : B ≤ w.heap.size) : Qt.UponR Tryz.prog w (Ap.OneAt B 3 [.int .i64 v]) ((execOp a.eval o).run Tryz.prog w) :=
  Gw.rel_slice 25 3 1 _ ho #[.int .i64 v] (.int .i64 0) 1 8 Tryz.underlying25 info_int (by decide) (by decide) [(0, .int .i64 v)] (by simp [hx]) (by kernel_rfl) ⟨w.heap.size, rfl, hB, heap_alloc_new _ _⟩
theorem y_str {W : World} {K : Act → Prop} {l : List Oper} {o : Oper} {a : Act} (hg : o.guard = none) (x ix : Operand) (ho : o.op = .index 9 x ix) (s : ByteArray) (i : Int) (v : Value) (hx : a.eval x = .string s) (hi : a.eval ix = .int .i64 i) (hv : ∀ w, Sem.run Tryz.prog (Instr.index 9 (.string s) (.int .i64 i)) w = .ok v w)
    (h : Qt.Lex Tryz.prog W K l (a.put o.dst v)) : Qt.Lex Tryz.prog W K (o :: l) a := by
  refine Qt.y_val hg v (fun w' _ => ?_) h
  unfold execOp
  simp only [ho, hx, hi, hv, Sem.run_bind, Sem.run_pure, Result.andThen_ok]
def xsN (N k : Nat) : List Value := (List.range k).map fun j => .int .i64 (dg (N : Int) j)
theorem xsN_succ (N k : Nat) : xsN N (k + 1) = xsN N k ++ [.int .i64 (dg (N : Int) k)] := by simp [xsN, List.range_succ]
theorem xsN_len (N k : Nat) : (xsN N k).length = k := by simp [xsN]
set_option maxRecDepth 100000 in
set_option maxHeartbeats 400000 in
theorem long_d (s : ByteArray) (n : Nat) (hs : s.size = 2 * n) (hn : n ≤ 100) (hn0 : 0 < n) (w : World) : Calls Tryz.prog 45 #[.string s] w fun e w' => ∃ v, e = .returned v ∧ w'.ownsRow w.heap.size 3 1 v n (xsN (le s.data.toList) n) ∧ Below w.heap.size w w' := by
  have hs' : (s.size : Int) = 2 * (n : Int) := by omega
  have Hs : Hid (s.size = 2 * n) := hs
  clear hs
  go_enter Tryz.func45, Tryz.ntmps45
  go_wp2_with fail
  go_loopw [3, 4] (fun v i wq => ∃ k : Nat, k ≤ n ∧ i = .int .i64 (2 * (k : Int)) ∧ wq.ownsRow w.heap.size 3 1 v k (xsN (le s.data.toList) k) ∧ Below w.heap.size w wq) (fun _ i _ => 2 * n - (intOf i).toNat)
  case atStart => exact ⟨0, by omega, rfl, World.ownsRow_nil _ _ _ _, Below.refl _ _⟩
  case round =>
    rename World => wa
    obtain ⟨k, hk, rfl, ho, hb⟩ := hrel
    have HO : Hid _ := ho
    have HB : Hid _ := hb
    clear ho hb
    by_cases hkn : k < n
    · have hk1 : 2 * k + 1 < s.size := by have := Hs.out; omega
      have Hp := le_part s.data.toList k (by have : s.data.size = s.size := rfl; simp; omega)
      have hb1 := (s[2 * k]).toNat_lt
      have hb2 := (s[2 * k + 1]).toNat_lt
      have Hx1 : Hid (∀ W, Sem.run Tryz.prog (Instr.index 9 (.string s) (.int .i64 (2 * (k : Int)))) W = .ok (.int .u8 ((s[2 * k]).toNat : Int)) W) := fun W => run_index_str W s (2 * k) (by omega) _ (by omega)
      have Hx2 : Hid (∀ W, Sem.run Tryz.prog (Instr.index 9 (.string s) (.int .i64 (2 * (k : Int) + 1))) W = .ok (.int .u8 ((s[2 * k + 1]).toNat : Int)) W) := fun W => run_index_str W s (2 * k + 1) (by omega) _ (by omega)
      have Hp : Hid (((s[2 * k]).toNat : Int) + 256 * ((s[2 * k + 1]).toNat : Int) = dg (le s.data.toList : Int) k) := Hp
      generalize (s[2 * k]).toNat = x at *
      generalize (s[2 * k + 1]).toNat = y at *
      go_wp2_with fail
      refine Qt.wp_last 12 (Ap.OneAt w.heap.size 3 [.int .i64 ((x : Int) + 256 * (y : Int))]) (by kernel_rfl) (by kernel_rfl) Ap.OneAt.lasts _ rfl ?_
      refine Qt.y_val rfl (u3) (fun _ _ => by kernel_rfl) ?_
      refine Qt.y_val rfl (.string s) (fun _ _ => by kernel_rfl) ?_
      refine Qt.y_val rfl (.int .i64 (2 * (k : Int))) (fun _ _ => by kernel_rfl) ?_
      simp only [Act.put, List.setIfInBounds_toArray, List.set_cons_zero, List.set_cons_succ]
      refine y_str rfl _ _ rfl s (2 * (k : Int)) (.int .u8 (x : Int)) rfl rfl Hx1.out ?_
      simp only [Act.put, List.setIfInBounds_toArray, List.set_cons_zero, List.set_cons_succ]
      refine Qt.y_val rfl (.int .i64 (x : Int)) (fun w' _ => by go_simp; exact IntWalk.i64_in _ ⟨by omega, by omega⟩) ?_
      refine Qt.y_val rfl (.string s) (fun _ _ => by kernel_rfl) ?_
      refine Qt.y_val rfl (.int .i64 (2 * (k : Int))) (fun _ _ => by kernel_rfl) ?_
      simp only [Act.put, List.setIfInBounds_toArray, List.set_cons_zero, List.set_cons_succ]
      refine Qt.y_val rfl (.int .i64 (2 * (k : Int) + 1)) (fun w' _ => by go_simp; exact IntWalk.i64_in _ ⟨by omega, by omega⟩) ?_
      simp only [Act.put, List.setIfInBounds_toArray, List.set_cons_zero, List.set_cons_succ]
      refine y_str rfl _ _ rfl s (2 * (k : Int) + 1) (.int .u8 (y : Int)) rfl rfl Hx2.out ?_
      simp only [Act.put, List.setIfInBounds_toArray, List.set_cons_zero, List.set_cons_succ]
      refine Qt.y_val rfl (.int .i64 (y : Int)) (fun w' _ => by go_simp; exact IntWalk.i64_in _ ⟨by omega, by omega⟩) ?_
      simp only [Act.put, List.setIfInBounds_toArray, List.set_cons_zero, List.set_cons_succ]
      refine Qt.y_val rfl (.int .i64 (256 * (y : Int))) (fun w' _ => by go_simp; exact IntWalk.i64_in _ ⟨by omega, by omega⟩) ?_
      simp only [Act.put, List.setIfInBounds_toArray, List.set_cons_zero, List.set_cons_succ]
      refine Qt.y_val rfl (.int .i64 ((x : Int) + 256 * (y : Int))) (fun w' _ => by go_simp; exact IntWalk.i64_in _ ⟨by omega, by omega⟩) ?_
      simp only [Act.put, List.setIfInBounds_toArray, List.set_cons_zero, List.set_cons_succ]
      refine Qt.y_nil ⟨fun w' hw' => one_slice _ rfl _ rfl (Nat.le_trans HB.out.size hw'.size), ?_⟩
      intro u w1 hb1 hu1
      simp only [List.setIfInBounds_toArray, List.set_cons_zero, List.set_cons_succ]
      simp only [List.drop_succ_cons, List.drop_zero]
      refine Ap.app_one rfl _ _ 25 rfl 3 (.int .i64 0) 1 8 Tryz.underlying25 info_int rfl (by decide) (by decide) w.heap.size u3 k _ rfl (Ap.own_below HO.out hb1) u _ rfl hu1 rfl (by simp; rfl) (by omega) (Nat.le_trans HB.out.size hb1.size) ?_
      intro v' w2 hown hb2 _
      rw [Hp.out, ← xsN_succ] at hown
      have HO2 : Hid _ := hown
      have HB2 : Hid (Below w.heap.size w w2) := (HB.out.trans (hb1.mono HB.out.size)).trans hb2
      clear hown hb2 hb1 hu1 HO HB
      go_wp2_with fail
      refine ⟨⟨k + 1, by omega, by congr 1, HO2.out, HB2.out⟩, ?_⟩
      show 2 * n - (2 * (k : Int) + 2).toNat < 2 * n - (2 * (k : Int)).toNat
      omega
    · obtain rfl : k = n := by omega
      go_wp2_with fail
      exact bodyPost_ret (v := u3) (by simp [results, Tryz.results45, go_sem]) rfl ⟨u3, rfl, HO.out, HB.out⟩
/-- What long hands back, as rest takes it. -/
theorem long_rest {w w' : World} {v : Value} {N n B : Nat} (hn : 0 < n) (h : w.ownsRow B 3 1 v n (xsN N n)) (hN : N < 2 ^ (16 * n)) (hn1 : n ≤ 100) (hw : Below w.heap.size w w') :
    Calls Tryz.prog 44 #[v] w' fun e w'' => e = .returned (.agg (nm ((N % Sw.LL : Nat) : Int))) ∧ Below w'.heap.size w' w'' := by
  obtain ⟨h1, h2⟩ := Ap.own_below h hw
  rcases h2 with ⟨_, h0⟩ | ⟨g, cap, cur, rfl, hB, hg, hc1, hc2, hsz, hxs⟩
  · omega
  · refine rest_d g cap n N hN hn1 w' (fun j hj => ?_) (Array.getElem?_eq_some_iff.1 hg).1
    rw [cell_of_row w' g j _ _ _ hg]
    have : (xsN N n)[j]? = some (.int .i64 (dg (N : Int) j)) := by simp [xsN, hj]
    rw [← hxs, List.getElem?_take_of_lt (by omega)] at this
    simpa using this
end Dc
end Go.Proofs.YtbojijefenfbgaaGreatDoor
