/- Walks of the program's field over F: power, Inverse. Walks of the program's field over F: Inverse, Root. Walk of the program's field over F: Root. -/
import Derived.Test.YtbojijefenfbgaaGreatDoorGgShort
import Derived.Test.YtbojijefenfbgaaGreatDoorGgExt
import Derived.Test.YtbojijefenfbgaaGreatDoorGgQFloat
import Derived.ChangeKeysEq
namespace Go.Proofs.YtbojijefenfbgaaGreatDoor
open Go.RowKit
namespace Fw
open Bt
theorem l_decl {ops : Array Oper} {rest : List Oper} {oa os : Oper} {a : Act} {w : World} {Q : Exit → Act → World → Prop} {x y : Operand} (hga : oa.guard = none) (ha : oa.op = .alloc 161) (hgs : os.guard = none) (hs : os.op = .store 161 x y) (v : Ed.F)
  (hx : ∀ b, (a.put oa.dst (.pointer (some ⟨b, 0, none⟩))).eval x = .pointer (some ⟨b, 0, none⟩)) (hy : ∀ b, (a.put oa.dst (.pointer (some ⟨b, 0, none⟩))).eval y = .agg (fw v))
  (h : ∀ w2 b, w.heap.size ≤ b → WAt w2 b v → Below w.heap.size w w2 → wpList Tryz.prog ops Q rest ((a.put oa.dst (.pointer (some ⟨b, 0, none⟩))).put os.dst undef) w2) : wpList Tryz.prog ops Q (oa :: os :: rest) a w := by
 refine Own.wpList_alloc_at _ hga 161 ha wordZero (by kernel_rfl) ?_
 have hz : WAt (w.alloc (.cells wordZero 161)) w.heap.size 0 := .zero (alloc_at _ _ _ rfl)
 refine store_w hgs x y hs w.heap.size v 0 (hx _) (hy _) hz ?_
 exact h _ _ (Nat.le_refl _) (hz.setRow v) (((Below.refl _ _).alloc (Nat.le_refl _) _).trans (below_setRow _ _ _))
theorem l_call {ops : Array Oper} {rest : List Oper} {o : Oper} {a : Act} {w : World} {Q : Exit → Act → World → Prop} (hg : o.guard = none) (f : FuncId) (args : Array Value) (v : Value) (hv : ∀ w', (execOp a.eval o).run Tryz.prog w' = .ok (.enter f args) w')
  (hc : Calls Tryz.prog f args w fun e w' => e = .returned v ∧ Below w.heap.size w w') (h : ∀ w', Below w.heap.size w w' → wpList Tryz.prog ops Q rest (a.put o.dst v) w') : wpList Tryz.prog ops Q (o :: rest) a w := by
 refine wpList_plain hg fun K hK => ?_
 unfold Oper.wp
 rw [hv w]
 exact hc.mono fun e w' ⟨he, hb⟩ => by subst he; exact hK _ _ (h w' hb)
theorem l_let {ops : Array Oper} {rest : List Oper} {oc oa os : Oper} {a : Act} {w : World} {Q : Exit → Act → World → Prop} {x y : Operand} (hg : oc.guard = none) (f : FuncId) (args : Array Value) (v : Ed.F) (hv : ∀ w', (execOp a.eval oc).run Tryz.prog w' = .ok (.enter f args) w')
  (hc : Calls Tryz.prog f args w fun e w' => e = .returned (.agg (fw v)) ∧ Below w.heap.size w w')
  (hga : oa.guard = none) (ha : oa.op = .alloc 161) (hgs : os.guard = none) (hs : os.op = .store 161 x y)
  (hx : ∀ b, ((a.put oc.dst (.agg (fw v))).put oa.dst (.pointer (some ⟨b, 0, none⟩))).eval x = .pointer (some ⟨b, 0, none⟩)) (hy : ∀ b, ((a.put oc.dst (.agg (fw v))).put oa.dst (.pointer (some ⟨b, 0, none⟩))).eval y = .agg (fw v))
  (h : ∀ w2 b, w.heap.size ≤ b → WAt w2 b v → Below w.heap.size w w2 → wpList Tryz.prog ops Q rest (((a.put oc.dst (.agg (fw v))).put oa.dst (.pointer (some ⟨b, 0, none⟩))).put os.dst undef) w2) : wpList Tryz.prog ops Q (oc :: oa :: os :: rest) a w :=
 l_call hg f args _ hv hc fun _w1 hb1 => l_decl hga ha hgs hs v hx hy fun w2 b hle hW hb2 => h w2 b (Nat.le_trans hb1.size hle) hW (hb1.trans (hb2.mono hb1.size))
def ones (x : Ed.F) (n : Nat) : Ed.F := Ed.fpow x (2 ^ n - 1)
theorem ones_one (x : Ed.F) : ones x 1 = x := Ed.fpow_one x
theorem ones_join (x : Ed.F) (m n : Nat) : Ed.fpow (ones x m) (2 ^ n) * ones x n = ones x (m + n) := by
 unfold ones
 rw [Ed.fpow_mul, ← Ed.fpow_add]
 congr 1
 have h1 : 0 < 2 ^ n := Nat.two_pow_pos n
 have h2 : 0 < 2 ^ m := Nat.two_pow_pos m
 rw [Nat.sub_mul, Nat.one_mul, Nat.pow_add]
 have h3 : 2 ^ n ≤ 2 ^ m * 2 ^ n := Nat.le_mul_of_pos_left _ h2
 omega
theorem join_ones (x : Ed.F) (m n : Nat) (hn : n ≤ 1000) (w : World) :
  Calls Tryz.prog 273 #[.agg (fw (ones x m)), .int .i64 n, .agg (fw (ones x n))] w fun e w' => e = .returned (.agg (fw (ones x (m + n)))) ∧ Below w.heap.size w w' := by
 rw [← ones_join]
 exact join_f (ones x m) (ones x n) n hn w
theorem join_last (x : Ed.F) (w : World) :
  Calls Tryz.prog 273 #[.agg (fw (ones x 250)), .int .i64 2, .agg (fw (ones x 1))] w fun e w' => e = .returned (.agg (fw (Ed.fpow x Ed.e8))) ∧ Below w.heap.size w w' := by
 have h := join_f (ones x 250) (ones x 1) 2 (by decide) w
 have e : Ed.fpow (ones x 250) (2 ^ 2) * ones x 1 = Ed.fpow x Ed.e8 := by
  unfold ones
  rw [Ed.fpow_mul, ← Ed.fpow_add]
  congr 1
 rw [e] at h
 exact h
set_option maxHeartbeats 1000000 in
set_option maxRecDepth 100000 in
theorem power_o (x : Ed.F) (w : World) :
  Calls Tryz.prog 240 #[.agg (fw (ones x 1))] w fun e w' => e = .returned (.agg (fw (Ed.fpow x Ed.e8))) ∧ Below w.heap.size w w' := by
 have HA : Hid (WAt (W2 w (ones x 1)) w.heap.size (ones x 1)) := W2_a w (ones x 1)
 have HR : Hid (WAt (W2 w (ones x 1)) (w.heap.size + 1) 0) := W2_r w (ones x 1)
 have HB : Hid (Below w.heap.size w (W2 w (ones x 1))) := W2_b w (ones x 1)
 go_enter Tryz.func240, Tryz.ntmps240
 go_wp2_with (first | refine load_w rfl _ rfl w.heap.size (ones x 1) rfl HA.out ?_ | refine l_let rfl 273 #[.agg (fw (ones x 1)), .int .i64 1, .agg (fw (ones x 1))] (ones x 2) (fun _ => by kernel_rfl) (join_ones x 1 1 (by decide) _) rfl rfl rfl rfl (fun _ => rfl) (fun _ => rfl) ?_)
 intro w2 b2 hle hW hb
 have HN2 : Hid (WAt w2 b2 (ones x 2)) := hW
 have HL2 : Hid (Below (W2 w (ones x 1)).heap.size (W2 w (ones x 1)) w2) := hb.mono (by simp)
 clear hW hb
 have HK1_2 : Hid (WAt w2 w.heap.size (ones x 1)) := HA.out.below HL2.out HA.out.lt
 have HR2 : Hid (WAt w2 (w.heap.size + 1) 0) := HR.out.below HL2.out HR.out.lt
 have HB2 : Hid (Below w.heap.size w w2) := HB.out.trans (HL2.out.mono HB.out.size)
 go_wp2_with (first | refine load_w rfl _ rfl w.heap.size (ones x 1) rfl HK1_2.out ?_ | refine load_w rfl _ rfl b2 (ones x 2) rfl HN2.out ?_ | refine l_let rfl 273 #[.agg (fw (ones x 2)), .int .i64 2, .agg (fw (ones x 2))] (ones x 4) (fun _ => by kernel_rfl) (join_ones x 2 2 (by decide) _) rfl rfl rfl rfl (fun _ => rfl) (fun _ => rfl) ?_)
 intro w4 b4 hle hW hb
 have HN4 : Hid (WAt w4 b4 (ones x 4)) := hW
 have HL4 : Hid (Below _ _ w4) := hb
 clear hW hb
 have HK1_4 : Hid (WAt w4 w.heap.size (ones x 1)) := HK1_2.out.below HL4.out HK1_2.out.lt
 have HR4 : Hid (WAt w4 (w.heap.size + 1) 0) := HR2.out.below HL4.out HR2.out.lt
 have HB4 : Hid (Below w.heap.size w w4) := HB2.out.trans (HL4.out.mono HB2.out.size)
 go_wp2_with (first | refine load_w rfl _ rfl w.heap.size (ones x 1) rfl HK1_4.out ?_ | refine load_w rfl _ rfl b4 (ones x 4) rfl HN4.out ?_ | refine l_let rfl 273 #[.agg (fw (ones x 4)), .int .i64 1, .agg (fw (ones x 1))] (ones x 5) (fun _ => by kernel_rfl) (join_ones x 4 1 (by decide) _) rfl rfl rfl rfl (fun _ => rfl) (fun _ => rfl) ?_)
 intro w5 b5 hle hW hb
 have HN5 : Hid (WAt w5 b5 (ones x 5)) := hW
 have HL5 : Hid (Below _ _ w5) := hb
 clear hW hb
 have HK1_5 : Hid (WAt w5 w.heap.size (ones x 1)) := HK1_4.out.below HL5.out HK1_4.out.lt
 have HR5 : Hid (WAt w5 (w.heap.size + 1) 0) := HR4.out.below HL5.out HR4.out.lt
 have HB5 : Hid (Below w.heap.size w w5) := HB4.out.trans (HL5.out.mono HB4.out.size)
 go_wp2_with (first | refine load_w rfl _ rfl w.heap.size (ones x 1) rfl HK1_5.out ?_ | refine load_w rfl _ rfl b5 (ones x 5) rfl HN5.out ?_ | refine l_let rfl 273 #[.agg (fw (ones x 5)), .int .i64 5, .agg (fw (ones x 5))] (ones x 10) (fun _ => by kernel_rfl) (join_ones x 5 5 (by decide) _) rfl rfl rfl rfl (fun _ => rfl) (fun _ => rfl) ?_)
 intro w10 b10 hle hW hb
 have HN10 : Hid (WAt w10 b10 (ones x 10)) := hW
 have HL10 : Hid (Below _ _ w10) := hb
 clear hW hb
 have HK1_10 : Hid (WAt w10 w.heap.size (ones x 1)) := HK1_5.out.below HL10.out HK1_5.out.lt
 have HR10 : Hid (WAt w10 (w.heap.size + 1) 0) := HR5.out.below HL10.out HR5.out.lt
 have HB10 : Hid (Below w.heap.size w w10) := HB5.out.trans (HL10.out.mono HB5.out.size)
 go_wp2_with (first | refine load_w rfl _ rfl w.heap.size (ones x 1) rfl HK1_10.out ?_ | refine load_w rfl _ rfl b10 (ones x 10) rfl HN10.out ?_ | refine l_let rfl 273 #[.agg (fw (ones x 10)), .int .i64 10, .agg (fw (ones x 10))] (ones x 20) (fun _ => by kernel_rfl) (join_ones x 10 10 (by decide) _) rfl rfl rfl rfl (fun _ => rfl) (fun _ => rfl) ?_)
 intro w20 b20 hle hW hb
 have HN20 : Hid (WAt w20 b20 (ones x 20)) := hW
 have HL20 : Hid (Below _ _ w20) := hb
 clear hW hb
 have HK1_20 : Hid (WAt w20 w.heap.size (ones x 1)) := HK1_10.out.below HL20.out HK1_10.out.lt
 have HK10_20 : Hid (WAt w20 b10 (ones x 10)) := HN10.out.below HL20.out HN10.out.lt
 have HR20 : Hid (WAt w20 (w.heap.size + 1) 0) := HR10.out.below HL20.out HR10.out.lt
 have HB20 : Hid (Below w.heap.size w w20) := HB10.out.trans (HL20.out.mono HB10.out.size)
 go_wp2_with (first | refine load_w rfl _ rfl w.heap.size (ones x 1) rfl HK1_20.out ?_ | refine load_w rfl _ rfl b10 (ones x 10) rfl HK10_20.out ?_ | refine load_w rfl _ rfl b20 (ones x 20) rfl HN20.out ?_ | refine l_let rfl 273 #[.agg (fw (ones x 20)), .int .i64 20, .agg (fw (ones x 20))] (ones x 40) (fun _ => by kernel_rfl) (join_ones x 20 20 (by decide) _) rfl rfl rfl rfl (fun _ => rfl) (fun _ => rfl) ?_)
 intro w40 b40 hle hW hb
 have HN40 : Hid (WAt w40 b40 (ones x 40)) := hW
 have HL40 : Hid (Below _ _ w40) := hb
 clear hW hb
 have HK1_40 : Hid (WAt w40 w.heap.size (ones x 1)) := HK1_20.out.below HL40.out HK1_20.out.lt
 have HK10_40 : Hid (WAt w40 b10 (ones x 10)) := HK10_20.out.below HL40.out HK10_20.out.lt
 have HR40 : Hid (WAt w40 (w.heap.size + 1) 0) := HR20.out.below HL40.out HR20.out.lt
 have HB40 : Hid (Below w.heap.size w w40) := HB20.out.trans (HL40.out.mono HB20.out.size)
 go_wp2_with (first | refine load_w rfl _ rfl w.heap.size (ones x 1) rfl HK1_40.out ?_ | refine load_w rfl _ rfl b10 (ones x 10) rfl HK10_40.out ?_ | refine load_w rfl _ rfl b40 (ones x 40) rfl HN40.out ?_ | refine l_let rfl 273 #[.agg (fw (ones x 40)), .int .i64 10, .agg (fw (ones x 10))] (ones x 50) (fun _ => by kernel_rfl) (join_ones x 40 10 (by decide) _) rfl rfl rfl rfl (fun _ => rfl) (fun _ => rfl) ?_)
 intro w50 b50 hle hW hb
 have HN50 : Hid (WAt w50 b50 (ones x 50)) := hW
 have HL50 : Hid (Below _ _ w50) := hb
 clear hW hb
 have HK1_50 : Hid (WAt w50 w.heap.size (ones x 1)) := HK1_40.out.below HL50.out HK1_40.out.lt
 have HR50 : Hid (WAt w50 (w.heap.size + 1) 0) := HR40.out.below HL50.out HR40.out.lt
 have HB50 : Hid (Below w.heap.size w w50) := HB40.out.trans (HL50.out.mono HB40.out.size)
 go_wp2_with (first | refine load_w rfl _ rfl w.heap.size (ones x 1) rfl HK1_50.out ?_ | refine load_w rfl _ rfl b50 (ones x 50) rfl HN50.out ?_ | refine l_let rfl 273 #[.agg (fw (ones x 50)), .int .i64 50, .agg (fw (ones x 50))] (ones x 100) (fun _ => by kernel_rfl) (join_ones x 50 50 (by decide) _) rfl rfl rfl rfl (fun _ => rfl) (fun _ => rfl) ?_)
 intro w100 b100 hle hW hb
 have HN100 : Hid (WAt w100 b100 (ones x 100)) := hW
 have HL100 : Hid (Below _ _ w100) := hb
 clear hW hb
 have HK1_100 : Hid (WAt w100 w.heap.size (ones x 1)) := HK1_50.out.below HL100.out HK1_50.out.lt
 have HK50_100 : Hid (WAt w100 b50 (ones x 50)) := HN50.out.below HL100.out HN50.out.lt
 have HR100 : Hid (WAt w100 (w.heap.size + 1) 0) := HR50.out.below HL100.out HR50.out.lt
 have HB100 : Hid (Below w.heap.size w w100) := HB50.out.trans (HL100.out.mono HB50.out.size)
 go_wp2_with (first | refine load_w rfl _ rfl w.heap.size (ones x 1) rfl HK1_100.out ?_ | refine load_w rfl _ rfl b50 (ones x 50) rfl HK50_100.out ?_ | refine load_w rfl _ rfl b100 (ones x 100) rfl HN100.out ?_ | refine l_let rfl 273 #[.agg (fw (ones x 100)), .int .i64 100, .agg (fw (ones x 100))] (ones x 200) (fun _ => by kernel_rfl) (join_ones x 100 100 (by decide) _) rfl rfl rfl rfl (fun _ => rfl) (fun _ => rfl) ?_)
 intro w200 b200 hle hW hb
 have HN200 : Hid (WAt w200 b200 (ones x 200)) := hW
 have HL200 : Hid (Below _ _ w200) := hb
 clear hW hb
 have HK1_200 : Hid (WAt w200 w.heap.size (ones x 1)) := HK1_100.out.below HL200.out HK1_100.out.lt
 have HK50_200 : Hid (WAt w200 b50 (ones x 50)) := HK50_100.out.below HL200.out HK50_100.out.lt
 have HR200 : Hid (WAt w200 (w.heap.size + 1) 0) := HR100.out.below HL200.out HR100.out.lt
 have HB200 : Hid (Below w.heap.size w w200) := HB100.out.trans (HL200.out.mono HB100.out.size)
 go_wp2_with (first | refine load_w rfl _ rfl w.heap.size (ones x 1) rfl HK1_200.out ?_ | refine load_w rfl _ rfl b50 (ones x 50) rfl HK50_200.out ?_ | refine load_w rfl _ rfl b200 (ones x 200) rfl HN200.out ?_ | refine l_let rfl 273 #[.agg (fw (ones x 200)), .int .i64 50, .agg (fw (ones x 50))] (ones x 250) (fun _ => by kernel_rfl) (join_ones x 200 50 (by decide) _) rfl rfl rfl rfl (fun _ => rfl) (fun _ => rfl) ?_)
 intro w250 b250 hle hW hb
 have HN250 : Hid (WAt w250 b250 (ones x 250)) := hW
 have HL250 : Hid (Below _ _ w250) := hb
 clear hW hb
 have HK1_250 : Hid (WAt w250 w.heap.size (ones x 1)) := HK1_200.out.below HL250.out HK1_200.out.lt
 have HR250 : Hid (WAt w250 (w.heap.size + 1) 0) := HR200.out.below HL250.out HR200.out.lt
 have HB250 : Hid (Below w.heap.size w w250) := HB200.out.trans (HL250.out.mono HB200.out.size)
 go_wp2_with (first | refine load_w rfl _ rfl w.heap.size (ones x 1) rfl HK1_250.out ?_ | refine load_w rfl _ rfl b250 (ones x 250) rfl HN250.out ?_ | refine l_call rfl 273 #[.agg (fw (ones x 250)), .int .i64 2, .agg (fw (ones x 1))] _ (fun _ => by kernel_rfl) (join_last x _) ?_)
 intro we hb
 have HE : Hid (Below _ _ we) := hb
 clear hb
 have HR : Hid (WAt we (w.heap.size + 1) 0) := HR250.out.below HE.out HR250.out.lt
 go_wp2_with (refine store_w rfl _ _ rfl (w.heap.size + 1) (Ed.fpow x Ed.e8) 0 rfl rfl HR.out ?_)
 exact ret_w Tryz.results240 rfl (w.heap.size + 1) (Ed.fpow x Ed.e8) rfl (HR.out.setRow _) ⟨rfl, below_store HB250.out HE.out _ (by omega) _⟩
theorem power_f (x : Ed.F) (w : World) :
  Calls Tryz.prog 240 #[.agg (fw x)] w fun e w' => e = .returned (.agg (fw (Ed.fpow x Ed.e8))) ∧ Below w.heap.size w w' := by
 have h := power_o x w
 rwa [ones_one] at h
end Fw
end Go.Proofs.YtbojijefenfbgaaGreatDoor
namespace Go.Proofs.YtbojijefenfbgaaGreatDoor
open Go.RowKit
namespace Fw
open Bt
theorem inv_eq (x p : Ed.F) (hp : p = Ed.fpow x Ed.e8) : Ed.fpow p (2 ^ 3) * x * (x * x) = Ed.inv x := by
 subst hp
 have e1 : x * x = Ed.fpow x 2 := by rw [show (2 : Nat) = 1 + 1 from rfl, Ed.fpow_add, Ed.fpow_one]
 have e2 : Ed.fpow (Ed.fpow x Ed.e8) (2 ^ 3) * x = Ed.fpow x (Ed.e8 * 2 ^ 3 + 1) := by rw [Ed.fpow_add, Ed.fpow_one, Ed.fpow_mul]
 rw [e1, e2, ← Ed.fpow_add]
 unfold Ed.inv
 congr 1
theorem squares_3 (x : Ed.F) (w : World) :
  Calls Tryz.prog 241 #[.agg (fw x), .int .i64 3] w fun e w' => e = .returned (.agg (fw (Ed.fpow x (2 ^ 3)))) ∧ Below w.heap.size w w' := squares_f x 3 (by decide) w
set_option maxHeartbeats 400000 in
theorem inverse_f (x : Ed.F) (w : World) :
  Calls Tryz.prog 178 #[.agg (fw x)] w fun e w' => e = .returned (.agg (fw (Ed.inv x))) ∧ Below w.heap.size w w' := by
 obtain ⟨p, hp⟩ : ∃ p, p = Ed.fpow x Ed.e8 := ⟨_, rfl⟩
 obtain ⟨s, hs⟩ : ∃ s, s = Ed.fpow p (2 ^ 3) := ⟨_, rfl⟩
 have hpow : Hid (∀ w, Calls Tryz.prog 240 #[.agg (fw x)] w fun e w' => e = .returned (.agg (fw p)) ∧ Below w.heap.size w w') := by rw [hp]; exact power_f x
 have hsq : Hid (∀ w, Calls Tryz.prog 241 #[.agg (fw p), .int .i64 3] w fun e w' => e = .returned (.agg (fw s)) ∧ Below w.heap.size w w') := by rw [hs]; exact squares_3 p
 have hfin : Hid (s * x * (x * x) = Ed.inv x) := by rw [hs]; exact inv_eq x p hp
 clear hp hs
 go_enter Tryz.func178, Tryz.ntmps178
 go_wp2_with fail
 refine Qt.wp_region_below_tail 8 (by kernel_rfl) (by kernel_rfl) ?_
 refine q_word rfl _ rfl w.heap.size x rfl (W2_a w x) ?_
 refine Qt.q_call rfl 240 #[.agg (fw x)] (.agg (fw p)) (fun _ => by kernel_rfl) (fun w' _ => hpow.out w') ?_
 refine Qt.q_call rfl 241 #[.agg (fw p), .int .i64 3] (.agg (fw s)) (fun _ => by kernel_rfl) (fun w' _ => hsq.out w') ?_
 refine q_word rfl _ rfl w.heap.size x rfl (W2_a w x) ?_
 refine Qt.q_call rfl 179 #[.agg (fw s), .agg (fw x)] _ (fun _ => by kernel_rfl) (fun w' _ => mul_f _ x w') ?_
 refine q_word rfl _ rfl w.heap.size x rfl (W2_a w x) ?_
 refine Qt.q_call rfl 224 #[.agg (fw x)] _ (fun _ => by kernel_rfl) (fun w' _ => square_f x w') ?_
 refine Qt.q_call rfl 179 #[.agg (fw (s * x)), .agg (fw (x * x))] _ (fun _ => by kernel_rfl) (fun w' _ => mul_f _ _ w') ?_
 simp only [Act.put, zA, zB, zC]
 refine wpQuiet_nil ?_
 intro w1 hb
 have HB : Hid (Below (W2 w x).heap.size (W2 w x) w1) := hb
 clear hb
 have HR : Hid (WAt w1 (w.heap.size + 1) 0) := (W2_r w x).below HB.out (W2_r w x).lt
 refine store_w rfl _ _ rfl (w.heap.size + 1) (s * x * (x * x)) 0 rfl rfl HR.out ?_
 rw [hfin.out]
 go_wp2_with fail
 exact ret_w Tryz.results178 rfl (w.heap.size + 1) (Ed.inv x) rfl (HR.out.setRow _) ⟨rfl, below_store (W2_b w x) HB.out _ (by omega) _⟩
end Fw
end Go.Proofs.YtbojijefenfbgaaGreatDoor
namespace Go.Proofs.YtbojijefenfbgaaGreatDoor
open Go.RowKit
namespace Fw
open Bt
theorem y_word {W : World} {K : Act → Prop} {l : List Oper} {o : Oper} {a : Act} (hg : o.guard = none) (x : Operand) (ho : o.op = .load 161 x) (b : Nat) (v : Ed.F) (hx : a.eval x = .pointer (some ⟨b, 0, none⟩)) (hb : WAt W b v)
  (h : Qt.Lex Tryz.prog W K l (a.put o.dst (.agg (fw v)))) : Qt.Lex Tryz.prog W K (o :: l) a :=
 Qt.y_row hg 161 x ho b hx 161 (fw v) (0, 0) _ hb Tryz.underlying161 rfl (by rw [fw_size]; kernel_rfl) h
theorem l_store {ops : Array Oper} {rest : List Oper} {os : Oper} {a : Act} {w0 w : World} {Q : Exit → Act → World → Prop} {x y : Operand} (hgs : os.guard = none) (hs : os.op = .store 161 x y) (b : Nat) (v : Ed.F) (hx : a.eval x = .pointer (some ⟨b, 0, none⟩)) (hy : a.eval y = .agg (fw v))
  (hw : Below w0.heap.size w0 w) (hle : w0.heap.size ≤ b) (hb : w.heap[b]? = some (.cells wordZero 161 (0, 0)))
  (h : ∀ w2, WAt w2 b v → Below w0.heap.size w0 w2 → wpList Tryz.prog ops Q rest (a.put os.dst undef) w2) : wpList Tryz.prog ops Q (os :: rest) a w :=
 store_w hgs x y hs b v 0 hx hy (.zero hb) (h _ ((WAt.zero hb).setRow v) (hw.trans ((below_setRow _ _ _).mono hle)))
theorem eq_items (w : World) (xs ys : Array Value) (f g : Nat → BitVec 64) (l : List Nat) (hx : ∀ i ∈ l, xs[i]? = some (.int .u64 (un (f i)))) (hy : ∀ i ∈ l, ys[i]? = some (.int .u64 (un (g i)))) :
  (Op.eqItems 9999 159 1 xs ys l).run Tryz.prog w = .ok (l.all fun i => decide (f i = g i)) w := by
 induction l with
 | nil => simp [Op.eqItems]
 | cons i l ih =>
  have ih := ih (fun j hj => hx j (by simp [hj])) (fun j hj => hy j (by simp [hj]))
  have e1 := run_part_plain (P := Tryz.prog) w (e := 159) (by kernel_rfl) (hx i (by simp))
  have e2 := run_part_plain (P := Tryz.prog) w (e := 159) (by kernel_rfl) (hy i (by simp))
  have e3 := run_equalIn_int (P := Tryz.prog) (w := w) 9998 159 .u64 .u64 (un (f i)) (un (g i)) Tryz.underlying159
  simp only [Op.eqItems, Nat.mul_one, Sem.run_bind, e1, e2, e3, Result.andThen_ok]
  by_cases h : f i = g i
  ·have hb : (un (f i) == un (g i)) = true := by rw [h]; simp
   rw [hb]
   simp only [Bool.not_true, Bool.false_eq_true, if_false, ih, List.all_cons, h, decide_true, Bool.true_and]
  ·have hb : (un (f i) == un (g i)) = false := by
    rw [beq_eq_false_iff_ne]
    exact fun he => h (UV.un_inj he)
   rw [hb]
   simp [h]
theorem four_all {p : Nat → Prop} (h0 : p 0) (h1 : p 1) (h2 : p 2) (h3 : p 3) : ∀ i ∈ [0, 1, 2, 3], p i := by simp [h0, h1, h2, h3]
theorem eq_q (a b : Q) (w : World) : Sem.run Tryz.prog (Op.equalIn 10000 161 (.agg a.cells) (.agg b.cells)) w = .ok (decide (a.a0 = b.a0) && (decide (a.a1 = b.a1) && (decide (a.a2 = b.a2) && decide (a.a3 = b.a3)))) w := by
 obtain ⟨i, hi⟩ := Option.isSome_iff_exists.1 (show (Tryz.prog.info? 159).isSome = true by kernel_rfl)
 have h1 := run_equalIn_array (P := Tryz.prog) w 9999 (t := 161) (e := 159) (n := 4) a.cells b.cells Tryz.underlying161 hi
 rw [h1, show Tryz.prog.cellsOf 159 = 1 by kernel_rfl, show List.range 4 = [0, 1, 2, 3] from rfl]
 rw [eq_items w a.cells b.cells (fun i => match i with | 0 => a.a0 | 1 => a.a1 | 2 => a.a2 | _ => a.a3) (fun i => match i with | 0 => b.a0 | 1 => b.a1 | 2 => b.a2 | _ => b.a3) [0, 1, 2, 3] (four_all rfl rfl rfl rfl) (four_all rfl rfl rfl rfl)]
 simp only [List.all_cons, List.all_nil, Bool.and_true]
theorem nq_inj {x y : Ed.F} (h : nq x.val = nq y.val) : x = y := Fin.ext (by rw [← fw_num x, ← fw_num y, h])
theorem eq_f (x y : Ed.F) (w : World) : Sem.run Tryz.prog (Op.equalIn 10000 161 (.agg (fw x)) (.agg (fw y))) w = .ok (decide (x = y)) w := by
 rw [fw_def, fw_def, eq_q]
 congr 1
 by_cases h : x = y
 ·subst h; simp
 ·have hn : nq x.val ≠ nq y.val := fun he => h (nq_inj he)
  rw [decide_eq_false h]
  generalize nq x.val = a at hn
  generalize nq y.val = b at hn
  obtain ⟨a0, a1, a2, a3⟩ := a
  obtain ⟨b0, b1, b2, b3⟩ := b
  simp only [ne_eq, Q.mk.injEq, not_and] at hn
  simp only [Bool.and_eq_false_iff, decide_eq_false_iff_not]
  by_cases e0 : a0 = b0
  ·by_cases e1 : a1 = b1
   ·by_cases e2 : a2 = b2
    ·exact .inr (.inr (.inr (hn e0 e1 e2)))
    ·exact .inr (.inr (.inl e2))
   ·exact .inr (.inl e1)
  ·exact .inl e0
theorem store_z {ops : Array Oper} {rest : List Oper} {o : Oper} {a : Act} {w : World} {Q : Exit → Act → World → Prop} (hg : o.guard = none) (x y : Operand) (ho : o.op = .store 161 x y) (b : Nat) (old : Ed.F) (hx : a.eval x = .pointer (some ⟨b, 0, none⟩)) (hy : a.eval y = .agg wordZero) (hb : WAt w b old)
  (h : wpList Tryz.prog ops Q rest (a.put o.dst undef) (w.setRow b (fw 0))) : wpList Tryz.prog ops Q (o :: rest) a w := store_w hg x y ho b 0 old hx (by rw [fw_zero]; exact hy) hb h
theorem un_lit (n : Nat) (h : n < 18446744073709551616) : un (BitVec.ofNat 64 n) = (n : Int) := UV.un_ofNat n h
theorem fw_lit (x : Ed.F) (a0 a1 a2 a3 : Nat) (h : x.val = a0 + 18446744073709551616 * a1 + 340282366920938463463374607431768211456 * a2 + 6277101735386680763835789423207666416102355444464034512896 * a3) (h0 : a0 < 18446744073709551616) (h1 : a1 < 18446744073709551616) (h2 : a2 < 18446744073709551616) (h3 : a3 < 18446744073709551616) :
  fw x = #[.int .u64 (a0 : Int), .int .u64 (a1 : Int), .int .u64 (a2 : Int), .int .u64 (a3 : Int)] := by
 have e : nq x.val = ⟨BitVec.ofNat 64 a0, BitVec.ofNat 64 a1, BitVec.ofNat 64 a2, BitVec.ofNat 64 a3⟩ := by
  refine (nq_of (q := ⟨BitVec.ofNat 64 a0, BitVec.ofNat 64 a1, BitVec.ofNat 64 a2, BitVec.ofNat 64 a3⟩) ?_).symm
  unfold Q.num
  simp only [BitVec.toNat_ofNat, Nat.mod_eq_of_lt (show a0 < 2 ^ 64 from h0), Nat.mod_eq_of_lt (show a1 < 2 ^ 64 from h1), Nat.mod_eq_of_lt (show a2 < 2 ^ 64 from h2), Nat.mod_eq_of_lt (show a3 < 2 ^ 64 from h3)]
  omega
 rw [fw_def, e]
 unfold Q.cells
 simp only [un_lit _ h0, un_lit _ h1, un_lit _ h2, un_lit _ h3]
theorem rootm_f (w : World) : Calls Tryz.prog 268 #[] w fun e w' => e = .returned (.agg (fw Ed.iI)) ∧ Below w.heap.size w w' := by
 rw [fw_lit Ed.iI 14190309331451158704 3405592160176694392 3120150775007532967 3135389899092516619 (by decide) (by decide) (by decide) (by decide) (by decide)]
 go_enter Tryz.func268, Tryz.ntmps268
 go_wp2_with fail
 exact Own.ret_row Tryz.results268 rfl w.heap.size 161 _ (0, 0) _ rfl (heap_alloc_new _ _) Tryz.underlying161 rfl (by kernel_rfl) ⟨rfl, (Below.refl _ _).alloc (Nat.le_refl _) _⟩
theorem one_f (w : World) : Calls Tryz.prog 227 #[] w fun e w' => e = .returned (.agg (fw 1)) ∧ Below w.heap.size w w' := by
 rw [fw_lit 1 1 0 0 0 (by decide) (by decide) (by decide) (by decide) (by decide)]
 go_enter Tryz.func227, Tryz.ntmps227
 go_wp2_with fail
 exact Own.ret_row Tryz.results227 rfl w.heap.size 161 _ (0, 0) _ rfl (heap_alloc_new _ _) Tryz.underlying161 rfl (by kernel_rfl) ⟨rfl, (Below.refl _ _).alloc (Nat.le_refl _) _⟩
theorem ret_wb {fn : Func} {p q : Tmp} (h : fn.results = #[.cell p 161, .tmp q]) {post : Ending → World → Prop} {a : Act} {w : World} (hd : a.defers = []) (g : Nat) (v : Ed.F) (b : Bool) (hp : a.tmps.getD p undef = .pointer (some ⟨g, 0, none⟩)) (hq : a.tmps.getD q undef = .bool b) (hg : WAt w g v) (hpost : post (.returned (.tuple #[.agg (fw v), .bool b])) w) :
  bodyPost Tryz.prog fn post .ret a w := by
 refine bodyPost_ret (v := .tuple #[.agg (fw v), .bool b]) ?_ hd hpost
 have hl := run_loadVar_row (P := Tryz.prog) w g 161 161 (fw v) (0, 0) _ hg Tryz.underlying161 rfl (by rw [fw_size]; kernel_rfl)
 have hp' : a.tmps[p]?.getD undef = .pointer (some ⟨g, 0, none⟩) := by simpa using hp
 have hq' : a.tmps[q]?.getD undef = .bool b := by simpa using hq
 simp [results, h, hp', hq', asAddr, hl]
attribute [local go_sem] eq_f
set_option maxRecDepth 100000 in
set_option maxHeartbeats 400000 in
theorem root_f (u v : Ed.F) (w : World) :
  Calls Tryz.prog 225 #[.agg (fw u), .agg (fw v)] w fun e w' => e = .returned (.tuple #[.agg (fw (Ed.rootF u v).1), .bool (Ed.rootF u v).2]) ∧ Below w.heap.size w w' := by
 obtain ⟨r, hr⟩ : ∃ r, r = Ed.rootC u v := ⟨_, rfl⟩
 obtain ⟨s, hs⟩ : ∃ s, s = Ed.fpow (u * (v * v * v * (v * v * v) * v)) Ed.e8 := ⟨_, rfl⟩
 have hrs : Hid (u * (v * v * v) * s = r) := by rw [hr, hs]; rfl
 have hpow : Hid (∀ w, Calls Tryz.prog 240 #[.agg (fw (u * (v * v * v * (v * v * v) * v)))] w fun e w' => e = .returned (.agg (fw s)) ∧ Below w.heap.size w w') := by rw [hs]; exact power_f _
 have hF : Hid (Ed.rootF u v = Ed.rootG u v r) := by rw [hr]; rfl
 rw [hF.out]
 clear hr hs
 go_enter Tryz.func225, Tryz.ntmps225
 go_wp2_with fail
 refine Qt.wp_let 4 (by kernel_rfl) (by kernel_rfl) _ rfl 161 rfl wordZero (by kernel_rfl) ?_
 refine y_word rfl _ rfl (w.heap.size + 1) (v) rfl (W3_c w u v) ?_
 refine Qt.y_call rfl 224 #[.agg (fw (v))] _ (fun _ => by kernel_rfl) (fun w' _ => square_f (v) w') ?_
 refine y_word rfl _ rfl (w.heap.size + 1) (v) rfl (W3_c w u v) ?_
 refine Qt.y_call rfl 179 #[.agg (fw (v * v)), .agg (fw (v))] _ (fun _ => by kernel_rfl) (fun w' _ => mul_f (v * v) (v) w') ?_
 simp only [Act.put, zA, zB, zC]
 refine Qt.y_nil ?_
 intro b3 w1 hw1 hle hb
 refine l_store rfl rfl b3 (v * v * v) rfl rfl hw1 hle hb ?_
 intro w2 hW hb2
 have HB : Hid (Below (W3 w u v).heap.size (W3 w u v) w2) := hb2
 have HU : Hid (WAt w2 w.heap.size u) := (W3_a w u v).below HB.out (W3_a w u v).lt
 have HV : Hid (WAt w2 (w.heap.size + 1) v) := (W3_c w u v).below HB.out (W3_c w u v).lt
 have HR : Hid (WAt w2 (w.heap.size + 1 + 1) 0) := (W3_r w u v).below HB.out (W3_r w u v).lt
 have H3 : Hid (WAt w2 b3 (v * v * v)) := hW
 have HT : Hid (Below w.heap.size w w2) := (W3_b w u v).trans (HB.out.mono (W3_b w u v).size)
 clear hW hb2 hb hle HB hw1
 simp only [Act.put, zA, zB, zC]
 go_wp2_with fail
 refine Qt.wp_let 4 (by kernel_rfl) (by kernel_rfl) _ rfl 161 rfl wordZero (by kernel_rfl) ?_
 refine y_word rfl _ rfl (b3) (v * v * v) rfl H3.out ?_
 refine Qt.y_call rfl 224 #[.agg (fw (v * v * v))] _ (fun _ => by kernel_rfl) (fun w' _ => square_f (v * v * v) w') ?_
 refine y_word rfl _ rfl (w.heap.size + 1) (v) rfl HV.out ?_
 refine Qt.y_call rfl 179 #[.agg (fw (v * v * v * (v * v * v))), .agg (fw (v))] _ (fun _ => by kernel_rfl) (fun w' _ => mul_f (v * v * v * (v * v * v)) (v) w') ?_
 simp only [Act.put, zA, zB, zC]
 refine Qt.y_nil ?_
 intro b7 w3 hw1 hle hb
 refine l_store rfl rfl b7 (v * v * v * (v * v * v) * v) rfl rfl hw1 hle hb ?_
 intro w4 hW hb2
 have HB : Hid (Below w2.heap.size w2 w4) := hb2
 have HU4 : Hid (WAt w4 w.heap.size u) := HU.out.below HB.out HU.out.lt
 have HV4 : Hid (WAt w4 (w.heap.size + 1) v) := HV.out.below HB.out HV.out.lt
 have HR4 : Hid (WAt w4 (w.heap.size + 1 + 1) 0) := HR.out.below HB.out HR.out.lt
 have H34 : Hid (WAt w4 b3 (v * v * v)) := H3.out.below HB.out H3.out.lt
 have H7 : Hid (WAt w4 b7 (v * v * v * (v * v * v) * v)) := hW
 have HT4 : Hid (Below w.heap.size w w4) := HT.out.trans (HB.out.mono HT.out.size)
 clear hW hb2 hb hle HB hw1 HU HV HR H3 HT
 simp only [Act.put, zA, zB, zC]
 go_wp2_with fail
 refine Qt.wp_let 8 (by kernel_rfl) (by kernel_rfl) _ rfl 161 rfl wordZero (by kernel_rfl) ?_
 refine y_word rfl _ rfl (w.heap.size) (u) rfl HU4.out ?_
 refine y_word rfl _ rfl (b3) (v * v * v) rfl H34.out ?_
 refine Qt.y_call rfl 179 #[.agg (fw (u)), .agg (fw (v * v * v))] _ (fun _ => by kernel_rfl) (fun w' _ => mul_f (u) (v * v * v) w') ?_
 simp only [Act.put, zA, zB, zC]
 refine y_word rfl _ rfl (w.heap.size) (u) rfl HU4.out ?_
 refine y_word rfl _ rfl (b7) (v * v * v * (v * v * v) * v) rfl H7.out ?_
 refine Qt.y_call rfl 179 #[.agg (fw (u)), .agg (fw (v * v * v * (v * v * v) * v))] _ (fun _ => by kernel_rfl) (fun w' _ => mul_f (u) (v * v * v * (v * v * v) * v) w') ?_
 simp only [Act.put, zA, zB, zC]
 refine Qt.y_call rfl 240 #[.agg (fw (u * (v * v * v * (v * v * v) * v)))] (.agg (fw s)) (fun _ => by kernel_rfl) (fun w' _ => hpow.out w') ?_
 refine Qt.y_call rfl 179 #[.agg (fw (u * (v * v * v))), .agg (fw (s))] _ (fun _ => by kernel_rfl) (fun w' _ => mul_f (u * (v * v * v)) (s) w') ?_
 rw [hrs.out]
 simp only [Act.put, zA, zB, zC]
 refine Qt.y_nil ?_
 intro br w5 hw1 hle hb
 refine l_store rfl rfl br r rfl rfl hw1 hle hb ?_
 intro w5 hW hb2
 have HB : Hid (Below w4.heap.size w4 w5) := hb2
 have HU : Hid (WAt w5 w.heap.size u) := HU4.out.below HB.out HU4.out.lt
 have HV : Hid (WAt w5 (w.heap.size + 1) v) := HV4.out.below HB.out HV4.out.lt
 have HR : Hid (WAt w5 (w.heap.size + 1 + 1) 0) := HR4.out.below HB.out HR4.out.lt
 have HQ : Hid (WAt w5 br r) := hW
 have HT : Hid (Below w.heap.size w w5) := HT4.out.trans (HB.out.mono HT4.out.size)
 clear hW hb2 hb hle HB hw1 HU4 HV4 HR4 H34 HT4 H7
 simp only [Act.put, zA, zB, zC]
 go_wp2_with fail
 refine Qt.wp_all (by kernel_rfl) (by kernel_rfl) ?_
 refine y_word rfl _ rfl (w.heap.size + 1) (v) rfl HV.out ?_
 refine y_word rfl _ rfl (br) (r) rfl HQ.out ?_
 refine Qt.y_call rfl 224 #[.agg (fw (r))] _ (fun _ => by kernel_rfl) (fun w' _ => square_f (r) w') ?_
 refine Qt.y_call rfl 179 #[.agg (fw (v)), .agg (fw (r * r))] _ (fun _ => by kernel_rfl) (fun w' _ => mul_f (v) (r * r) w') ?_
 simp only [Act.put, zA, zB, zC]
 refine Qt.y_nil ?_
 intro w6 hb1
 have HB : Hid (Below w5.heap.size w5 w6) := hb1
 have HU6 : Hid (WAt w6 w.heap.size u) := HU.out.below HB.out HU.out.lt
 have HV6 : Hid (WAt w6 (w.heap.size + 1) v) := HV.out.below HB.out HV.out.lt
 have HR6 : Hid (WAt w6 (w.heap.size + 1 + 1) 0) := HR.out.below HB.out HR.out.lt
 have HQ6 : Hid (WAt w6 br r) := HQ.out.below HB.out HQ.out.lt
 have HT6 : Hid (Below w.heap.size w w6) := HT.out.trans (HB.out.mono HT.out.size)
 clear hb1 HB HU HV HR HQ HT
 by_cases h1 : v * (r * r) = u
 ·have e1 : Hid (Ed.rootG u v r = (r, true)) := if_pos h1
  have d1 := decide_eq_true h1
  have H1 : Hid _ := h1
  clear h1
  go_wp2_with (first | refine load_w rfl _ rfl w.heap.size u rfl HU6.out ?_ | refine load_w rfl _ rfl br r rfl HQ6.out ?_ | refine store_w rfl _ _ rfl (w.heap.size + 1 + 1) r 0 rfl rfl HR6.out ?_)
  exact ret_wb Tryz.results225 rfl (w.heap.size + 1 + 1) r true rfl rfl (HR6.out.setRow _) ⟨by rw [e1.out], HT6.out.trans ((below_setRow _ _ _).mono (by omega))⟩
 ·have d1 := decide_eq_false h1
  by_cases h2 : v * (r * r) = 0 - u
  ·have e2 : Hid (Ed.rootG u v r = (r * Ed.iI, true)) := (if_neg h1).trans (if_pos h2)
   have d2 := decide_eq_true h2
   have H1 : Hid _ := h1
   have H2 : Hid _ := h2
   clear h1 h2
   go_wp2_with (first | refine load_w rfl _ rfl w.heap.size u rfl HU6.out ?_ | (go_at_call 177; refine (neg_f u _).mono ?_; rintro e w7 ⟨rfl, hb7⟩; have HB7 : Hid (Below w6.heap.size w6 w7) := hb7; clear hb7))
   have HQ7 : Hid (WAt w7 br r) := HQ6.out.below HB7.out HQ6.out.lt
   have HR7 : Hid (WAt w7 (w.heap.size + 1 + 1) 0) := HR6.out.below HB7.out HR6.out.lt
   refine Qt.wp_tail 3 (by kernel_rfl) (by kernel_rfl) ?_
   refine y_word rfl _ rfl (br) (r) rfl HQ7.out ?_
   refine Qt.y_call rfl 268 #[] (.agg (fw Ed.iI)) (fun _ => by kernel_rfl) (fun w' _ => rootm_f w') ?_
   refine Qt.y_call rfl 179 #[.agg (fw (r)), .agg (fw (Ed.iI))] _ (fun _ => by kernel_rfl) (fun w' _ => mul_f (r) (Ed.iI) w') ?_
   simp only [Act.put, zA, zB, zC]
   refine Qt.y_nil ?_
   intro w8 hb8
   have HB8 : Hid (Below w7.heap.size w7 w8) := hb8
   clear hb8
   have HR8 : Hid (WAt w8 (w.heap.size + 1 + 1) 0) := HR7.out.below HB8.out HR7.out.lt
   refine store_w rfl _ _ rfl (w.heap.size + 1 + 1) (r * Ed.iI) 0 rfl rfl HR8.out ?_
   go_wp2_with fail
   exact ret_wb Tryz.results225 rfl (w.heap.size + 1 + 1) (r * Ed.iI) true rfl rfl (HR8.out.setRow _) ⟨by rw [e2.out], ((HT6.out.trans (HB7.out.mono HT6.out.size)).trans (HB8.out.mono (Nat.le_trans HT6.out.size HB7.out.size))).trans ((below_setRow _ _ _).mono (by omega))⟩
  ·have e3 : Hid (Ed.rootG u v r = (0, false)) := (if_neg h1).trans (if_neg h2)
   have d2 := decide_eq_false h2
   have H1 : Hid _ := h1
   have H2 : Hid _ := h2
   clear h1 h2
   go_wp2_with (first | refine load_w rfl _ rfl w.heap.size u rfl HU6.out ?_ | (go_at_call 177; refine (neg_f u _).mono ?_; rintro e w7 ⟨rfl, hb7⟩; have HB7 : Hid (Below w6.heap.size w6 w7) := hb7; have HR7 : Hid (WAt w7 (w.heap.size + 1 + 1) 0) := HR6.out.below HB7.out HR6.out.lt; clear hb7) | refine store_z rfl _ _ rfl (w.heap.size + 1 + 1) 0 rfl rfl HR7.out ?_)
   exact ret_wb Tryz.results225 rfl (w.heap.size + 1 + 1) 0 false rfl rfl (HR7.out.setRow _) ⟨by rw [e3.out], (HT6.out.trans (HB7.out.mono HT6.out.size)).trans ((below_setRow _ _ _).mono (by omega))⟩
end Fw
end Go.Proofs.YtbojijefenfbgaaGreatDoor
