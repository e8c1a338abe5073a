/- Walk of the program's curve: across. Walk of the program's curve: FromBytes. Walks of the program's wide numbers: mulAdd, Mul, Join. -/
import Derived.Test.YtbojijefenfbgaaGreatDoorGgShort
import Derived.Test.YtbojijefenfbgaaGreatDoorGgWideB
import Derived.Test.YtbojijefenfbgaaGreatDoorGgQLate
namespace Go.Proofs.YtbojijefenfbgaaGreatDoor
open Go.RowKit
namespace Cw
open Fw Ww Bt
theorem bne_bool (a b : Bool) : (a != b) = !(a == b) := by cases a <;> cases b <;> rfl
set_option maxRecDepth 100000 in
set_option maxHeartbeats 1000000 in
theorem across_f (y : Ed.F) (odd : Bool) (w : World) : Calls Tryz.prog 155 #[.agg (fw y), .bool odd] w fun e w' => e = .returned (.tuple #[.agg (fw (Ed.acrossF y odd).1), .bool (Ed.acrossF y odd).2]) ∧ Below w.heap.size w w' := by
 obtain ⟨r, hr⟩ : ∃ r, r = Ed.rootF (y * y - 1) (Ed.dD * (y * y) + 1) := ⟨_, rfl⟩
 have Hroot : Hid (∀ w, Calls Tryz.prog 225 #[.agg (fw (y * y - 1)), .agg (fw (Ed.dD * (y * y) + 1))] w fun e w' => e = .returned (.tuple #[.agg (fw r.1), .bool r.2]) ∧ Below w.heap.size w w') := by rw [hr]; exact root_f _ _
 have HG : Hid (Ed.acrossF y odd = Ed.acrossG r odd) := by rw [hr]; rfl
 clear hr
 have HA : Hid (WAt (W2 w y) w.heap.size y) := W2_a w y
 have HR : Hid (WAt (W2 w y) (w.heap.size + 1) 0) := W2_r w y
 have HB : Hid (Below w.heap.size w (W2 w y)) := W2_b w y
 go_enter Tryz.func155, Tryz.ntmps155
 go_wp2_with (refine Qt.wp_letL 2 _ rfl 161 rfl wordZero (by kernel_rfl) rfl ?_)
 rename_i Kq hKq
 refine y_word rfl _ rfl (w.heap.size) (y) rfl HA.out ?_
 refine Qt.y_call rfl 224 #[.agg (fw (y))] _ (fun _ => by kernel_rfl) (fun w' _ => square_f (y) w') ?_
 simp only [Act.put, zA, zB, zC]
 refine Qt.y_nil ?_
 intro by2 wa1 hw1 hle hb
 have hw1 : Below (W2 w y).heap.size (W2 w y) wa1 := by first | exact hw1 | exact hw1.mono (by simp)
 have hle : (W2 w y).heap.size ≤ by2 := by first | exact hle | exact Nat.le_trans (by simp) hle
 refine l_store rfl rfl by2 (y * y) rfl rfl hw1 hle hb ?_
 intro w1 hW hb2
 have HX : Hid (Below (W2 w y).heap.size (W2 w y) w1) := hb2
 have HY1 : Hid (WAt w1 by2 (y * y)) := hW
 have HR1 : Hid (WAt w1 (w.heap.size + 1) 0) := HR.out.below HX.out HR.out.lt
 have HB1 : Hid (Below w.heap.size w w1) := HB.out.trans (HX.out.mono HB.out.size)
 clear hW hb2 hb hle hw1 HX HA HR HB
 simp only [Act.put, zA, zB, zC]
 refine Qt.done ?_
 refine hKq _ _ ?_
 refine wp_seq ?_
 refine Qt.wp_late 12 (by kernel_rfl) (by kernel_rfl) _ _ rfl rfl 161 rfl wordZero (by kernel_rfl) _ _ rfl (fw r.1) (by rw [fw_size]; kernel_rfl) (by rw [fw_size]; rfl) (fw_one _) ?_
 refine y_word rfl _ rfl (by2) (y * y) rfl HY1.out ?_
 refine Qt.y_call rfl 227 #[] (.agg (fw 1)) (fun _ => by kernel_rfl) (fun w' _ => one_f w') ?_
 refine Qt.y_call rfl 226 #[.agg (fw (y * y)), .agg (fw (1))] _ (fun _ => by kernel_rfl) (fun w' _ => sub_f (y * y) (1) w') ?_
 simp only [Act.put, zA, zB, zC]
 refine Qt.y_call rfl 228 #[] (.agg (fw Ed.dD)) (fun _ => by kernel_rfl) (fun w' _ => factor_f w') ?_
 refine y_word rfl _ rfl (by2) (y * y) rfl HY1.out ?_
 refine Qt.y_call rfl 179 #[.agg (fw (Ed.dD)), .agg (fw (y * y))] _ (fun _ => by kernel_rfl) (fun w' _ => mul_f (Ed.dD) (y * y) w') ?_
 simp only [Act.put, zA, zB, zC]
 refine Qt.y_call rfl 227 #[] (.agg (fw 1)) (fun _ => by kernel_rfl) (fun w' _ => one_f w') ?_
 refine Qt.y_call rfl 229 #[.agg (fw (Ed.dD * (y * y))), .agg (fw (1))] _ (fun _ => by kernel_rfl) (fun w' _ => add_f (Ed.dD * (y * y)) (1) w') ?_
 simp only [Act.put, zA, zB, zC]
 refine Qt.y_call rfl 225 #[.agg (fw (y * y - 1)), .agg (fw (Ed.dD * (y * y) + 1))] (.tuple #[.agg (fw r.1), .bool r.2]) (fun _ => by kernel_rfl) (fun w' _ => Hroot.out w') ?_
 simp only [Act.put, zA, zB, zC]
 refine Qt.y_val rfl (.tuple #[.agg (fw r.1), .bool r.2]) (fun _ _ => by kernel_rfl) ?_
 refine Qt.y_val rfl (.agg (fw r.1)) (fun _ _ => by kernel_rfl) ?_
 refine Qt.y_val rfl (.bool r.2) (fun _ _ => by kernel_rfl) ?_
 simp only [Act.put, zA, zB, zC]
 refine Qt.y_nil ?_
 refine ⟨fun _ => rfl, fun _ => rfl, ?_⟩
 intro bx w2 hle2 hW hb3
 have HX : Hid (Below w1.heap.size w1 w2) := hb3
 have HV2 : Hid (WAt w2 bx r.1) := hW
 have HR2 : Hid (WAt w2 (w.heap.size + 1) 0) := HR1.out.below HX.out HR1.out.lt
 have HB2 : Hid (Below w.heap.size w w2) := HB1.out.trans (HX.out.mono HB1.out.size)
 have HNE : Hid (w.heap.size + 1 ≠ bx) := by have h1 := HR1.out.lt; have h2 := hle2; show _ ≠ _; omega
 have HLE : Hid (w.heap.size ≤ bx) := Nat.le_trans HB1.out.size hle2
 clear hW hb3 hle2 HX HY1 HR1 HB1
 simp only [List.setIfInBounds_toArray, List.set_cons_zero, List.set_cons_succ]
 cases hok : r.2 with
 | false =>
  have HF : Hid (Ed.acrossG r odd = (0, false)) := if_pos hok
  clear hok
  go_wp2_with (refine store_z rfl _ _ rfl (w.heap.size + 1) 0 rfl rfl HR2.out ?_)
  exact ret_wb Tryz.results155 rfl (w.heap.size + 1) 0 false rfl rfl (HR2.out.setRow _) ⟨by rw [HG.out, HF.out], HB2.out.trans ((below_setRow _ _ _).mono (by omega))⟩
 | true =>
  cases hodd : (Ed.oddF r.1 == odd) with
  | true =>
   have HF : Hid (Ed.acrossG r odd = (r.1, true)) := (if_neg (by rw [hok]; decide)).trans (if_pos (eq_of_beq hodd))
   have hne := bne_bool (Ed.oddF r.1) odd
   rw [hodd] at hne
   clear hok
   go_wp2_with (refine load_w rfl _ rfl bx r.1 rfl HV2.out ?_)
   refine (odd_f r.1 _).mono ?_
   rintro e w3 ⟨rfl, hb3⟩
   have HX : Hid (Below w2.heap.size w2 w3) := hb3
   have HV3 : Hid (WAt w3 bx r.1) := HV2.out.below HX.out HV2.out.lt
   have HR3 : Hid (WAt w3 (w.heap.size + 1) 0) := HR2.out.below HX.out HR2.out.lt
   have HB3 : Hid (Below w.heap.size w w3) := HB2.out.trans (HX.out.mono HB2.out.size)
   clear hb3 HX
   go_wp2_with fail
   refine Qt.wp_store 5 3 (by kernel_rfl) (by kernel_rfl) (by decide) (by decide) _ rfl 161 _ _ rfl (w.heap.size + 1) (fw 0) (fw r.1) HR3.out (by rw [fw_size]; kernel_rfl) (by rw [fw_size, fw_size]) (fw_one _) ?_
   refine y_word rfl _ rfl (bx) (r.1) rfl HV3.out ?_
   refine y_word rfl _ rfl (bx) (r.1) rfl HV3.out ?_
   refine Qt.y_call rfl 181 #[.agg (fw r.1)] (.bool (Ed.oddF r.1)) (fun _ => by kernel_rfl) (fun w' _ => odd_f r.1 w') ?_
   simp only [Act.put, zA, zB, zC]
   refine Qt.y_nil ?_
   refine Qt.p_t (by decide) rfl (.bool odd) (fun _ => by kernel_rfl) ?_
   refine Qt.p_t (by decide) rfl (.bool true) (fun w' => by go_simp) ?_
   simp only [Act.put, zA, zB, zC]
   refine Qt.p_nil ?_
   refine ⟨rfl, rfl, ?_⟩
   intro w4 hb4
   have HX : Hid (Below w3.heap.size w3 w4) := hb4
   clear hb4
   have HR4 : Hid (WAt w4 (w.heap.size + 1) 0) := HR3.out.below HX.out HR3.out.lt
   have HB4 : Hid (Below w.heap.size w w4) := HB3.out.trans (HX.out.mono HB3.out.size)
   go_wp2_with fail
   exact ret_wb Tryz.results155 rfl (w.heap.size + 1) r.1 true rfl rfl (HR4.out.setRow _) ⟨by rw [HG.out, HF.out], HB4.out.trans ((below_setRow _ _ _).mono (by omega))⟩
  | false =>
   obtain ⟨ok2, hok2⟩ : ∃ b, (Ed.oddF (0 - r.1) == odd) = b := ⟨_, rfl⟩
   have HF : Hid (Ed.acrossG r odd = (0 - r.1, ok2)) := by
    show _ = _
    rw [← hok2]
    exact (if_neg (by rw [hok]; decide)).trans (if_neg (fun h => by rw [beq_iff_eq.2 h] at hodd; cases hodd))
   have hne := bne_bool (Ed.oddF r.1) odd
   rw [hodd] at hne
   clear hok
   go_wp2_with (refine load_w rfl _ rfl bx r.1 rfl HV2.out ?_)
   refine (odd_f r.1 _).mono ?_
   rintro e w3 ⟨rfl, hb3⟩
   have HX : Hid (Below w2.heap.size w2 w3) := hb3
   have HV3 : Hid (WAt w3 bx r.1) := HV2.out.below HX.out HV2.out.lt
   have HR3 : Hid (WAt w3 (w.heap.size + 1) 0) := HR2.out.below HX.out HR2.out.lt
   have HB3 : Hid (Below w.heap.size w w3) := HB2.out.trans (HX.out.mono HB2.out.size)
   clear hb3 HX HV2 HR2 HB2
   go_wp2_with (refine load_w rfl _ rfl bx r.1 rfl HV3.out ?_)
   refine (neg_f r.1 _).mono ?_
   rintro e w4 ⟨rfl, hb4⟩
   have HX : Hid (Below w3.heap.size w3 w4) := hb4
   have HV4 : Hid (WAt w4 bx r.1) := HV3.out.below HX.out HV3.out.lt
   have HV5 : Hid (WAt (w4.setRow bx (fw (0 - r.1))) bx (0 - r.1)) := HV4.out.setRow _
   have HR5 : Hid (WAt (w4.setRow bx (fw (0 - r.1))) (w.heap.size + 1) 0) := (HR3.out.below HX.out HR3.out.lt).other HNE.out _
   have HB5 : Hid (Below w.heap.size w (w4.setRow bx (fw (0 - r.1)))) := (HB3.out.trans (HX.out.mono HB3.out.size)).trans ((below_setRow _ _ _).mono HLE.out)
   clear hb4 HX HV3 HR3 HB3
   go_wp2_with (refine store_w rfl _ _ rfl bx (0 - r.1) r.1 rfl rfl HV4.out ?_)
   refine Qt.wp_store 5 3 (by kernel_rfl) (by kernel_rfl) (by decide) (by decide) _ rfl 161 _ _ rfl (w.heap.size + 1) (fw 0) (fw (0 - r.1)) HR5.out (by rw [fw_size]; kernel_rfl) (by rw [fw_size, fw_size]) (fw_one _) ?_
   refine y_word rfl _ rfl (bx) (0 - r.1) rfl HV5.out ?_
   refine y_word rfl _ rfl (bx) (0 - r.1) rfl HV5.out ?_
   refine Qt.y_call rfl 181 #[.agg (fw (0 - r.1))] (.bool (Ed.oddF (0 - r.1))) (fun _ => by kernel_rfl) (fun w' _ => odd_f (0 - r.1) w') ?_
   simp only [Act.put, zA, zB, zC]
   refine Qt.y_nil ?_
   refine Qt.p_t (by decide) rfl (.bool odd) (fun _ => by kernel_rfl) ?_
   refine Qt.p_t (by decide) rfl (.bool ok2) (fun w' => by go_simp) ?_
   simp only [Act.put, zA, zB, zC]
   refine Qt.p_nil ?_
   refine ⟨rfl, rfl, ?_⟩
   intro w6 hb6
   have HX : Hid (Below (w4.setRow bx (fw (0 - r.1))).heap.size (w4.setRow bx (fw (0 - r.1))) w6) := hb6
   clear hb6
   have HR6 : Hid (WAt w6 (w.heap.size + 1) 0) := HR5.out.below HX.out HR5.out.lt
   have HB6 : Hid (Below w.heap.size w w6) := HB5.out.trans (HX.out.mono HB5.out.size)
   go_wp2_with fail
   exact ret_wb Tryz.results155 rfl (w.heap.size + 1) (0 - r.1) ok2 rfl rfl (HR6.out.setRow _) ⟨by rw [HG.out, HF.out], HB6.out.trans ((below_setRow _ _ _).mono (by omega))⟩
end Cw
end Go.Proofs.YtbojijefenfbgaaGreatDoor
namespace Go.Proofs.YtbojijefenfbgaaGreatDoor
open Go.RowKit
namespace Cw
open Fw Ww Bt
def lowQ (q : Q) : Q := ⟨q.a0, q.a1, q.a2, q.a3 &&& 9223372036854775807#64⟩
noncomputable def decG (q : Q) : Ed.E × Bool :=
 if (fromN (lowQ q)).2 = false then (e0, false)
 else if (Ed.acrossF (fromN (lowQ q)).1 (decide (un (q.a3 >>> 63) = 1))).2 = false then (e0, false)
 else (Ed.aff (Ed.acrossF (fromN (lowQ q)).1 (decide (un (q.a3 >>> 63) = 1))).1 (fromN (lowQ q)).1, true)
noncomputable def decF (l : List UInt8) : Ed.E × Bool := if l.length = 32 then decG (bq l) else (e0, false)
theorem ret_pb {fn : Func} {p q : Tmp} (h : fn.results = #[.cell p 163, .tmp q]) {post : Ending → World → Prop} {a : Act} {w : World} (hd : a.defers = []) (g : Nat) (v : Ed.E) (b : Bool) (hp : a.tmps.getD p undef = .pointer (some ⟨g, 0, none⟩)) (hq : a.tmps.getD q undef = .bool b) (hg : PAt w g v) (hpost : post (.returned (.tuple #[.agg (pw v), .bool b])) w) :
  bodyPost Tryz.prog fn post .ret a w :=
 ret_rv h hd g 163 (pw v) (0, 0) _ (.bool b) hp hq hg Tryz.underlying163 rfl (by rw [pw_size]; kernel_rfl) hpost
theorem store_pz {ops : Array Oper} {rest : List Oper} {o : Oper} {a : Act} {w : World} {Q : Exit → Act → World → Prop} (hg : o.guard = none) (x y : Operand) (ho : o.op = .store 163 x y) (b : Nat) (old : Ed.E) (hx : a.eval x = .pointer (some ⟨b, 0, none⟩)) (hy : a.eval y = .agg ptZero) (hb : PAt w b old)
  (h : wpList Tryz.prog ops Q rest (a.put o.dst undef) (w.setRow b (pw e0))) : wpList Tryz.prog ops Q (o :: rest) a w := store_p hg x y ho b e0 old hx (by rw [pw_zero]; exact hy) hb h
theorem l_declN {ops : Array Oper} {rest : List Oper} {oa os : Oper} {a : Act} {w : World} {Q : Exit → Act → World → Prop} {x y : Operand} (hga : oa.guard = none) (ha : oa.op = .alloc 184) (hgs : os.guard = none) (hs : os.op = .store 184 x y) (v : Fw.Q)
  (hx : ∀ b, (a.put oa.dst (.pointer (some ⟨b, 0, none⟩))).eval x = .pointer (some ⟨b, 0, none⟩)) (hy : ∀ b, (a.put oa.dst (.pointer (some ⟨b, 0, none⟩))).eval y = .agg v.cells)
  (h : ∀ w2 b, w.heap.size ≤ b → NAt w2 b v → Below w.heap.size w w2 → wpList Tryz.prog ops Q rest ((a.put oa.dst (.pointer (some ⟨b, 0, none⟩))).put os.dst undef) w2) : wpList Tryz.prog ops Q (oa :: os :: rest) a w := by
 refine Own.wpList_alloc_at _ hga 184 ha zQ.cells (by kernel_rfl) ?_
 have hz := fresh_n w
 refine store_n hgs x y hs w.heap.size v zQ (hx _) (hy _) hz ?_
 exact h _ _ (Nat.le_refl _) (hz.setRow v) (((Below.refl _ _).alloc (Nat.le_refl _) _).trans (below_setRow _ _ _))
set_option maxRecDepth 100000 in
set_option maxHeartbeats 1000000 in
theorem ptFrom_f (l : List UInt8) (w : World) : Calls Tryz.prog 85 #[.string ⟨l.toArray⟩] w fun e w' => e = .returned (.tuple #[.agg (pw (decF l).1), .bool (decF l).2]) ∧ Below w.heap.size w w' := by
 have HR : Hid (PAt (Z1 w) w.heap.size e0) := Z1_r w
 by_cases hl : l.length = 32
 ·have hli : (l.length : Int) = 32 := by omega
  have HD : Hid (decF l = decG (bq l)) := if_pos hl
  have HL : Hid (l.length = 32) := hl
  clear hl
  go_enter Tryz.func85, Tryz.ntmps85
  go_wp2_with fail
  refine (fromBytes_f l (by rw [HL.out]; exact Nat.le_refl _) _).mono ?_
  rintro e w1 ⟨rfl, hb1⟩
  rw [List.take_of_length_le (by rw [HL.out]; exact Nat.le_refl _)]
  obtain ⟨q, hq⟩ : ∃ q, q = bq l := ⟨_, rfl⟩
  rw [← hq] at HD ⊢
  clear hq
  have HX1 : Hid (Below (Z1 w).heap.size (Z1 w) w1) := hb1
  have HR1 : Hid (PAt w1 w.heap.size e0) := HR.out.below HX1.out HR.out.lt
  have HB1 : Hid (Below w.heap.size w w1) := (Z1_b w).trans (HX1.out.mono (Z1_b w).size)
  clear hb1 HX1 HR
  go_wp2_with (refine l_declN rfl rfl rfl rfl q (fun _ => rfl) (fun _ => rfl) ?_)
  intro w2 bn hle hW hb2
  have HX2 : Hid (Below w1.heap.size w1 w2) := hb2
  have HN2 : Hid (NAt w2 bn q) := hW
  have HR2 : Hid (PAt w2 w.heap.size e0) := HR1.out.below HX2.out HR1.out.lt
  have HB2 : Hid (Below w.heap.size w w2) := HB1.out.trans (HX2.out.mono HB1.out.size)
  have HNE : Hid (w.heap.size ≠ bn) := by have h1 := HR1.out.lt; have h2 := hle; show _ ≠ _; omega
  have HLE : Hid (w.heap.size ≤ bn) := Nat.le_trans HB1.out.size hle
  clear hW hb2 hle HX2 HR1 HB1
  have hc3 : w2.cell? ⟨bn, 3, none⟩ = some (.int .u64 (un q.a3)) := q_cell HN2.out 3 (by omega)
  have hf3 : w2.frozen? ⟨bn, 3, none⟩ = false := NAt.frozen HN2.out 3
  have hand := and_top q.a3
  have h63 := shr63 q.a3
  have HN3 : Hid (NAt (w2.setCell ⟨bn, 3, none⟩ (.int .u64 (un (q.a3 &&& 9223372036854775807#64)))) bn (lowQ q)) := NAt.set3 HN2.out _
  have HR3 : Hid (PAt (w2.setCell ⟨bn, 3, none⟩ (.int .u64 (un (q.a3 &&& 9223372036854775807#64)))) w.heap.size e0) := by
   show _ = _
   rw [Below.heap_setCell _ _ _ _ (by exact HNE.out)]
   exact HR2.out
  have HB3 : Hid (Below w.heap.size w (w2.setCell ⟨bn, 3, none⟩ (.int .u64 (un (q.a3 &&& 9223372036854775807#64))))) := HB2.out.setCell HLE.out _
  go_wp2_with (refine load_n rfl _ rfl bn (lowQ q) rfl HN3.out ?_)
  refine (fromNumber_f (lowQ q) _).mono ?_
  rintro e w4 ⟨rfl, hb4⟩
  have HX4 : Hid (Below (w2.setCell ⟨bn, 3, none⟩ (.int .u64 (un (q.a3 &&& 9223372036854775807#64)))).heap.size (w2.setCell ⟨bn, 3, none⟩ (.int .u64 (un (q.a3 &&& 9223372036854775807#64)))) w4) := hb4
  have HR4 : Hid (PAt w4 w.heap.size e0) := HR3.out.below HX4.out HR3.out.lt
  have HB4 : Hid (Below w.heap.size w w4) := HB3.out.trans (HX4.out.mono HB3.out.size)
  obtain ⟨y, hy⟩ : ∃ y, y = (fromN (lowQ q)).1 := ⟨_, rfl⟩
  obtain ⟨ok, hok⟩ : ∃ ok, ok = (fromN (lowQ q)).2 := ⟨_, rfl⟩
  obtain ⟨odd, hodd⟩ : ∃ odd, odd = decide (un (q.a3 >>> (63 : Nat)) = 1) := ⟨_, rfl⟩
  have HG : Hid (decG q = if ok = false then (e0, false) else if (Ed.acrossF y odd).2 = false then (e0, false) else (Ed.aff (Ed.acrossF y odd).1 y, true)) := by rw [hy, hok, hodd]; rfl
  have hdd : (un (q.a3 >>> (63 : Nat)) == 1) = odd := by rw [hodd]; by_cases h : un (q.a3 >>> (63 : Nat)) = 1 <;> simp [h]
  rw [← hy, ← hok]
  clear hy hok hodd hb4 HX4 HR3 HB3 HN3 hc3 hf3 hand HN2 HR2 HB2
  rw [hdd]
  clear hdd h63
  go_wp2_with (refine l_decl rfl rfl rfl rfl y (fun _ => rfl) (fun _ => rfl) ?_)
  intro w5 by1 hle hW hb5
  have HX5 : Hid (Below w4.heap.size w4 w5) := hb5
  have HY5 : Hid (WAt w5 by1 y) := hW
  have HR5 : Hid (PAt w5 w.heap.size e0) := HR4.out.below HX5.out HR4.out.lt
  have HB5 : Hid (Below w.heap.size w w5) := HB4.out.trans (HX5.out.mono HB4.out.size)
  clear hW hb5 hle HX5 HR4 HB4
  cases ok with
  | false =>
   have HF : Hid (decG q = (e0, false)) := HG.out.trans (if_pos rfl)
   go_wp2_with (refine store_pz rfl _ _ rfl w.heap.size e0 rfl rfl HR5.out ?_)
   exact ret_pb Tryz.results85 rfl w.heap.size e0 false rfl rfl (HR5.out.setRow _) ⟨by rw [HD.out, HF.out], HB5.out.trans ((below_setRow _ _ _).mono (Nat.le_refl _))⟩
  | true =>
   go_wp2_with (refine load_w rfl _ rfl by1 y rfl HY5.out ?_)
   refine (across_f y odd _).mono ?_
   rintro e w6 ⟨rfl, hb6⟩
   have HX6 : Hid (Below w5.heap.size w5 w6) := hb6
   have HY6 : Hid (WAt w6 by1 y) := HY5.out.below HX6.out HY5.out.lt
   have HR6 : Hid (PAt w6 w.heap.size e0) := HR5.out.below HX6.out HR5.out.lt
   have HB6 : Hid (Below w.heap.size w w6) := HB5.out.trans (HX6.out.mono HB5.out.size)
   obtain ⟨x, hx⟩ : ∃ x, x = (Ed.acrossF y odd).1 := ⟨_, rfl⟩
   obtain ⟨ok2, hok2⟩ : ∃ ok, ok = (Ed.acrossF y odd).2 := ⟨_, rfl⟩
   rw [← hx, ← hok2] at HG ⊢
   clear hx hok2 hb6 HX6 HY5 HR5 HB5
   go_wp2_with (refine l_decl rfl rfl rfl rfl x (fun _ => rfl) (fun _ => rfl) ?_)
   intro w7 bx hle hW hb7
   have HX7 : Hid (Below w6.heap.size w6 w7) := hb7
   have HV7 : Hid (WAt w7 bx x) := hW
   have HY7 : Hid (WAt w7 by1 y) := HY6.out.below HX7.out HY6.out.lt
   have HR7 : Hid (PAt w7 w.heap.size e0) := HR6.out.below HX7.out HR6.out.lt
   have HB7 : Hid (Below w.heap.size w w7) := HB6.out.trans (HX7.out.mono HB6.out.size)
   clear hW hb7 hle HX7 HR6 HB6 HY6
   cases ok2 with
   | false =>
    have HF : Hid (decG q = (e0, false)) := HG.out
    go_wp2_with (refine store_pz rfl _ _ rfl w.heap.size e0 rfl rfl HR7.out ?_)
    exact ret_pb Tryz.results85 rfl w.heap.size e0 false rfl rfl (HR7.out.setRow _) ⟨by rw [HD.out, HF.out], HB7.out.trans ((below_setRow _ _ _).mono (Nat.le_refl _))⟩
   | true =>
    have HF : Hid (decG q = (Ed.aff x y, true)) := HG.out
    go_wp2_with (first | refine load_w rfl _ rfl bx x rfl HV7.out ?_ | refine load_w rfl _ rfl by1 y rfl HY7.out ?_)
    refine (affine_f x y _).mono ?_
    rintro e w8 ⟨rfl, hb8⟩
    have HX8 : Hid (Below w7.heap.size w7 w8) := hb8
    have HR8 : Hid (PAt w8 w.heap.size e0) := HR7.out.below HX8.out HR7.out.lt
    have HB8 : Hid (Below w.heap.size w w8) := HB7.out.trans (HX8.out.mono HB7.out.size)
    clear hb8 HX8
    go_wp2_with (refine store_p rfl _ _ rfl w.heap.size (Ed.aff x y) e0 rfl rfl HR8.out ?_)
    exact ret_pb Tryz.results85 rfl w.heap.size (Ed.aff x y) true rfl rfl (HR8.out.setRow _) ⟨by rw [HD.out, HF.out], HB8.out.trans ((below_setRow _ _ _).mono (Nat.le_refl _))⟩
 ·have hli : (l.length : Int) ≠ 32 := by omega
  have HD : Hid (decF l = (e0, false)) := if_neg hl
  clear hl
  go_enter Tryz.func85, Tryz.ntmps85
  go_wp2_with (refine store_pz rfl _ _ rfl w.heap.size e0 rfl rfl HR.out ?_)
  exact ret_pb Tryz.results85 rfl w.heap.size e0 false rfl rfl (HR.out.setRow _) ⟨by rw [HD.out], (Z1_b w).trans ((below_setRow _ _ _).mono (Nat.le_refl _))⟩
end Cw
end Go.Proofs.YtbojijefenfbgaaGreatDoor
namespace Go.Proofs.YtbojijefenfbgaaGreatDoor
open Go.RowKit
namespace Ww
open Fw Bt
attribute [local go_sem] UV.u_add UV.u_mul UV.u_sub UV.u_xor UV.u_and UV.u_or UV.u_shr UV.u_shl UV.u_not UV.u_notm UV.u_wrap_un run_Add64 run_Sub64 run_Add64_xy0
def maLo (x y p q : BitVec 64) : BitVec 64 := x * y + p + bv false + q + bv false
def maHi (x y p q : BitVec 64) : BitVec 64 := mulH x y + bv (carry (x * y) p false) + bv (carry (x * y + p + bv false) q false)
def updW (W : Nat → BitVec 64) (k : Nat) (v : BitVec 64) : Nat → BitVec 64 := fun j => if j = k then v else W j
def dF (W : Nat → BitVec 64) (k : Nat) : Value := .int .u64 (un (W k))
def DAt (w : World) (b : Nat) (W : Nat → BitVec 64) : Prop := w.heap[b]? = some (.cells (Own.mkRow 8 (dF W)) 265 (0, 0))
theorem DAt.lt {w : World} {b : Nat} {W : Nat → BitVec 64} (h : DAt w b W) : b < w.heap.size := (Array.getElem?_eq_some_iff.1 h).1
theorem DAt.below {w w' : World} {b : Nat} {W : Nat → BitVec 64} (h : DAt w b W) {k : Nat} (hb : Below k w w') (hk : b < k) : DAt w' b W := (hb.block b hk).trans h
theorem DAt.cell {w : World} {b : Nat} {W : Nat → BitVec 64} (h : DAt w b W) (k : Nat) (hk : k < 8) : w.cell? ⟨b, k, none⟩ = some (.int .u64 (un (W k))) := Own.row_cell h k hk
theorem DAt.frozen {w : World} {b : Nat} {W : Nat → BitVec 64} (h : DAt w b W) (k : Nat) : w.frozen? ⟨b, k, none⟩ = false := Own.row_frozen h k
theorem DAt.set {w : World} {b : Nat} {W : Nat → BitVec 64} (h : DAt w b W) (k : Nat) (v : BitVec 64) : DAt (w.setCell ⟨b, k, none⟩ (.int .u64 (un v))) b (updW W k v) := by
 have h1 := Own.row_store h k (.int .u64 (un v))
 unfold DAt
 rw [h1]
 refine congrArg (fun c => some (Obj.cells c 265 (0, 0))) (Own.mkRow_congr fun j _ => ?_)
 unfold dF updW
 by_cases hj : j = k
 ·rw [if_pos hj, if_pos hj]
 ·rw [if_neg hj, if_neg hj]
theorem NAt.setOther {w : World} {b c o : Nat} {q : Q} (h : NAt w b q) (hne : b ≠ c) (v : Value) : NAt (w.setCell ⟨c, o, none⟩ v) b q := by
 show _ = _
 rw [Below.heap_setCell _ _ _ _ (by exact hne)]
 exact h
theorem DAt.setOther {w : World} {b c o : Nat} {W : Nat → BitVec 64} (h : DAt w b W) (hne : b ≠ c) (v : Value) : DAt (w.setCell ⟨c, o, none⟩ v) b W := by
 show _ = _
 rw [Below.heap_setCell _ _ _ _ (by exact hne)]
 exact h
def dZero : Array Value := #[.int .u64 0, .int .u64 0, .int .u64 0, .int .u64 0, .int .u64 0, .int .u64 0, .int .u64 0, .int .u64 0]
abbrev G4 (w : World) (a b : Q) : World := (((w.alloc (.cells a.cells 184)).alloc (.cells b.cells 184)).alloc (.cells dZero 265)).alloc (.cells dZero 265)
theorem DAt.setRow {w : World} {b : Nat} {W : Nat → BitVec 64} (h : DAt w b W) (V : Nat → BitVec 64) : DAt (w.setRow b (Own.mkRow 8 (dF V))) b V := setRow_heap _ _ _ _ _ _ h
end Ww
end Go.Proofs.YtbojijefenfbgaaGreatDoor
