/- Walks of the program's field over F: power, Inverse. -/
import Derived.Test.YtbojijefenfbgaaDoorSgFieldG
namespace Go.Proofs.YtbojijefenfbgaaDoor
open Go.RowKit
namespace Fw
open Bt

/-- 'v := ..': a new block with the word. -/
theorem l_decl {ops : Array Oper} {rest : List Oper} {oa os : Oper} {a : Act} {w : World} {Q : Exit → Act → World → Prop} {x y : Operand} (hga : oa.guard = none) (ha : oa.op = .alloc 89) (hgs : os.guard = none) (hs : os.op = .store 89 x y) (v : Ed.F)
    (hx : ∀ b, (a.put oa.dst (.pointer (some ⟨b, 0, none⟩))).eval x = .pointer (some ⟨b, 0, none⟩)) (hy : ∀ b, (a.put oa.dst (.pointer (some ⟨b, 0, none⟩))).eval y = .agg (fw v))
    (h : ∀ w2 b, w.heap.size ≤ b → WAt w2 b v → Below w.heap.size w w2 → wpList Tryd.prog ops Q rest ((a.put oa.dst (.pointer (some ⟨b, 0, none⟩))).put os.dst undef) w2) : wpList Tryd.prog ops Q (oa :: os :: rest) a w := by
  refine Own.wpList_alloc_at _ hga 89 ha wordZero (by kernel_rfl) ?_
  have hz : WAt (w.alloc (.cells wordZero 89)) w.heap.size 0 := .zero (alloc_at _ _ _ rfl)
  refine store_w hgs x y hs w.heap.size v 0 (hx _) (hy _) hz ?_
  exact h _ _ (Nat.le_refl _) (hz.setRow v) (((Below.refl _ _).alloc (Nat.le_refl _) _).trans (below_setRow _ _ _))
/-- A call whose contract ends in Below. -/
theorem l_call {ops : Array Oper} {rest : List Oper} {o : Oper} {a : Act} {w : World} {Q : Exit → Act → World → Prop} (hg : o.guard = none) (f : FuncId) (args : Array Value) (v : Value) (hv : ∀ w', (execOp a.eval o).run Tryd.prog w' = .ok (.enter f args) w')
    (hc : Calls Tryd.prog f args w fun e w' => e = .returned v ∧ Below w.heap.size w w') (h : ∀ w', Below w.heap.size w w' → wpList Tryd.prog ops Q rest (a.put o.dst v) w') : wpList Tryd.prog ops Q (o :: rest) a w := by
  refine wpList_plain hg fun K hK => ?_
  unfold Oper.wp
  rw [hv w]
  exact hc.mono fun e w' ⟨he, hb⟩ => by subst he; exact hK _ _ (h w' hb)
/-- A call, and its word in a new block. -/
theorem l_let {ops : Array Oper} {rest : List Oper} {oc oa os : Oper} {a : Act} {w : World} {Q : Exit → Act → World → Prop} {x y : Operand} (hg : oc.guard = none) (f : FuncId) (args : Array Value) (v : Ed.F) (hv : ∀ w', (execOp a.eval oc).run Tryd.prog w' = .ok (.enter f args) w')
    (hc : Calls Tryd.prog f args w fun e w' => e = .returned (.agg (fw v)) ∧ Below w.heap.size w w')
    (hga : oa.guard = none) (ha : oa.op = .alloc 89) (hgs : os.guard = none) (hs : os.op = .store 89 x y)
    (hx : ∀ b, ((a.put oc.dst (.agg (fw v))).put oa.dst (.pointer (some ⟨b, 0, none⟩))).eval x = .pointer (some ⟨b, 0, none⟩)) (hy : ∀ b, ((a.put oc.dst (.agg (fw v))).put oa.dst (.pointer (some ⟨b, 0, none⟩))).eval y = .agg (fw v))
    (h : ∀ w2 b, w.heap.size ≤ b → WAt w2 b v → Below w.heap.size w w2 → wpList Tryd.prog ops Q rest (((a.put oc.dst (.agg (fw v))).put oa.dst (.pointer (some ⟨b, 0, none⟩))).put os.dst undef) w2) : wpList Tryd.prog ops Q (oc :: oa :: os :: rest) a w :=
  l_call hg f args _ hv hc fun _w1 hb1 => l_decl hga ha hgs hs v hx hy fun w2 b hle hW hb2 => h w2 b (Nat.le_trans hb1.size hle) hW (hb1.trans (hb2.mono hb1.size))

/-- x to 2^n - 1. -/
def ones (x : Ed.F) (n : Nat) : Ed.F := Ed.fpow x (2 ^ n - 1)
theorem ones_one (x : Ed.F) : ones x 1 = x := Ed.fpow_one x
theorem ones_join (x : Ed.F) (m n : Nat) : Ed.fpow (ones x m) (2 ^ n) * ones x n = ones x (m + n) := by
  unfold ones
  rw [Ed.fpow_mul, ← Ed.fpow_add]
  congr 1
  have h1 : 0 < 2 ^ n := Nat.two_pow_pos n
  have h2 : 0 < 2 ^ m := Nat.two_pow_pos m
  rw [Nat.sub_mul, Nat.one_mul, Nat.pow_add]
  have h3 : 2 ^ n ≤ 2 ^ m * 2 ^ n := Nat.le_mul_of_pos_left _ h2
  omega
theorem join_ones (x : Ed.F) (m n : Nat) (hn : n ≤ 1000) (w : World) :
    Calls Tryd.prog 113 #[.agg (fw (ones x m)), .int .i64 n, .agg (fw (ones x n))] w fun e w' => e = .returned (.agg (fw (ones x (m + n)))) ∧ Below w.heap.size w w' := by
  rw [← ones_join]
  exact join_f (ones x m) (ones x n) n hn w
theorem join_last (x : Ed.F) (w : World) :
    Calls Tryd.prog 113 #[.agg (fw (ones x 250)), .int .i64 2, .agg (fw (ones x 1))] w fun e w' => e = .returned (.agg (fw (Ed.fpow x Ed.e8))) ∧ Below w.heap.size w w' := by
  have h := join_f (ones x 250) (ones x 1) 2 (by decide) w
  have e : Ed.fpow (ones x 250) (2 ^ 2) * ones x 1 = Ed.fpow x Ed.e8 := by
    unfold ones
    rw [Ed.fpow_mul, ← Ed.fpow_add]
    congr 1
  rw [e] at h
  exact h
set_option maxHeartbeats 1000000 in
set_option maxRecDepth 100000 in
theorem power_o (x : Ed.F) (w : World) :
    Calls Tryd.prog 103 #[.agg (fw (ones x 1))] w fun e w' => e = .returned (.agg (fw (Ed.fpow x Ed.e8))) ∧ Below w.heap.size w w' := by
  have HA : Hid (WAt (W2 w (ones x 1)) w.heap.size (ones x 1)) := W2_a w (ones x 1)
  have HR : Hid (WAt (W2 w (ones x 1)) (w.heap.size + 1) 0) := W2_r w (ones x 1)
  have HB : Hid (Below w.heap.size w (W2 w (ones x 1))) := W2_b w (ones x 1)
  go_enter Tryd.func103, Tryd.ntmps103
  go_wp2_with (first | refine load_w rfl _ rfl w.heap.size (ones x 1) rfl HA.out ?_ | refine l_let rfl 113 #[.agg (fw (ones x 1)), .int .i64 1, .agg (fw (ones x 1))] (ones x 2) (fun _ => by kernel_rfl) (join_ones x 1 1 (by decide) _) rfl rfl rfl rfl (fun _ => rfl) (fun _ => rfl) ?_)
  intro w2 b2 hle hW hb
  have HN2 : Hid (WAt w2 b2 (ones x 2)) := hW
  have HL2 : Hid (Below (W2 w (ones x 1)).heap.size (W2 w (ones x 1)) w2) := hb.mono (by simp)
  clear hW hb
  have HK1_2 : Hid (WAt w2 w.heap.size (ones x 1)) := HA.out.below HL2.out HA.out.lt
  have HR2 : Hid (WAt w2 (w.heap.size + 1) 0) := HR.out.below HL2.out HR.out.lt
  have HB2 : Hid (Below w.heap.size w w2) := HB.out.trans (HL2.out.mono HB.out.size)
  go_wp2_with (first | refine load_w rfl _ rfl w.heap.size (ones x 1) rfl HK1_2.out ?_ | refine load_w rfl _ rfl b2 (ones x 2) rfl HN2.out ?_ | refine l_let rfl 113 #[.agg (fw (ones x 2)), .int .i64 2, .agg (fw (ones x 2))] (ones x 4) (fun _ => by kernel_rfl) (join_ones x 2 2 (by decide) _) rfl rfl rfl rfl (fun _ => rfl) (fun _ => rfl) ?_)
  intro w4 b4 hle hW hb
  have HN4 : Hid (WAt w4 b4 (ones x 4)) := hW
  have HL4 : Hid (Below _ _ w4) := hb
  clear hW hb
  have HK1_4 : Hid (WAt w4 w.heap.size (ones x 1)) := HK1_2.out.below HL4.out HK1_2.out.lt
  have HR4 : Hid (WAt w4 (w.heap.size + 1) 0) := HR2.out.below HL4.out HR2.out.lt
  have HB4 : Hid (Below w.heap.size w w4) := HB2.out.trans (HL4.out.mono HB2.out.size)
  go_wp2_with (first | refine load_w rfl _ rfl w.heap.size (ones x 1) rfl HK1_4.out ?_ | refine load_w rfl _ rfl b4 (ones x 4) rfl HN4.out ?_ | refine l_let rfl 113 #[.agg (fw (ones x 4)), .int .i64 1, .agg (fw (ones x 1))] (ones x 5) (fun _ => by kernel_rfl) (join_ones x 4 1 (by decide) _) rfl rfl rfl rfl (fun _ => rfl) (fun _ => rfl) ?_)
  intro w5 b5 hle hW hb
  have HN5 : Hid (WAt w5 b5 (ones x 5)) := hW
  have HL5 : Hid (Below _ _ w5) := hb
  clear hW hb
  have HK1_5 : Hid (WAt w5 w.heap.size (ones x 1)) := HK1_4.out.below HL5.out HK1_4.out.lt
  have HR5 : Hid (WAt w5 (w.heap.size + 1) 0) := HR4.out.below HL5.out HR4.out.lt
  have HB5 : Hid (Below w.heap.size w w5) := HB4.out.trans (HL5.out.mono HB4.out.size)
  go_wp2_with (first | refine load_w rfl _ rfl w.heap.size (ones x 1) rfl HK1_5.out ?_ | refine load_w rfl _ rfl b5 (ones x 5) rfl HN5.out ?_ | refine l_let rfl 113 #[.agg (fw (ones x 5)), .int .i64 5, .agg (fw (ones x 5))] (ones x 10) (fun _ => by kernel_rfl) (join_ones x 5 5 (by decide) _) rfl rfl rfl rfl (fun _ => rfl) (fun _ => rfl) ?_)
  intro w10 b10 hle hW hb
  have HN10 : Hid (WAt w10 b10 (ones x 10)) := hW
  have HL10 : Hid (Below _ _ w10) := hb
  clear hW hb
  have HK1_10 : Hid (WAt w10 w.heap.size (ones x 1)) := HK1_5.out.below HL10.out HK1_5.out.lt
  have HR10 : Hid (WAt w10 (w.heap.size + 1) 0) := HR5.out.below HL10.out HR5.out.lt
  have HB10 : Hid (Below w.heap.size w w10) := HB5.out.trans (HL10.out.mono HB5.out.size)
  go_wp2_with (first | refine load_w rfl _ rfl w.heap.size (ones x 1) rfl HK1_10.out ?_ | refine load_w rfl _ rfl b10 (ones x 10) rfl HN10.out ?_ | refine l_let rfl 113 #[.agg (fw (ones x 10)), .int .i64 10, .agg (fw (ones x 10))] (ones x 20) (fun _ => by kernel_rfl) (join_ones x 10 10 (by decide) _) rfl rfl rfl rfl (fun _ => rfl) (fun _ => rfl) ?_)
  intro w20 b20 hle hW hb
  have HN20 : Hid (WAt w20 b20 (ones x 20)) := hW
  have HL20 : Hid (Below _ _ w20) := hb
  clear hW hb
  have HK1_20 : Hid (WAt w20 w.heap.size (ones x 1)) := HK1_10.out.below HL20.out HK1_10.out.lt
  have HK10_20 : Hid (WAt w20 b10 (ones x 10)) := HN10.out.below HL20.out HN10.out.lt
  have HR20 : Hid (WAt w20 (w.heap.size + 1) 0) := HR10.out.below HL20.out HR10.out.lt
  have HB20 : Hid (Below w.heap.size w w20) := HB10.out.trans (HL20.out.mono HB10.out.size)
  go_wp2_with (first | refine load_w rfl _ rfl w.heap.size (ones x 1) rfl HK1_20.out ?_ | refine load_w rfl _ rfl b10 (ones x 10) rfl HK10_20.out ?_ | refine load_w rfl _ rfl b20 (ones x 20) rfl HN20.out ?_ | refine l_let rfl 113 #[.agg (fw (ones x 20)), .int .i64 20, .agg (fw (ones x 20))] (ones x 40) (fun _ => by kernel_rfl) (join_ones x 20 20 (by decide) _) rfl rfl rfl rfl (fun _ => rfl) (fun _ => rfl) ?_)
  intro w40 b40 hle hW hb
  have HN40 : Hid (WAt w40 b40 (ones x 40)) := hW
  have HL40 : Hid (Below _ _ w40) := hb
  clear hW hb
  have HK1_40 : Hid (WAt w40 w.heap.size (ones x 1)) := HK1_20.out.below HL40.out HK1_20.out.lt
  have HK10_40 : Hid (WAt w40 b10 (ones x 10)) := HK10_20.out.below HL40.out HK10_20.out.lt
  have HR40 : Hid (WAt w40 (w.heap.size + 1) 0) := HR20.out.below HL40.out HR20.out.lt
  have HB40 : Hid (Below w.heap.size w w40) := HB20.out.trans (HL40.out.mono HB20.out.size)
  go_wp2_with (first | refine load_w rfl _ rfl w.heap.size (ones x 1) rfl HK1_40.out ?_ | refine load_w rfl _ rfl b10 (ones x 10) rfl HK10_40.out ?_ | refine load_w rfl _ rfl b40 (ones x 40) rfl HN40.out ?_ | refine l_let rfl 113 #[.agg (fw (ones x 40)), .int .i64 10, .agg (fw (ones x 10))] (ones x 50) (fun _ => by kernel_rfl) (join_ones x 40 10 (by decide) _) rfl rfl rfl rfl (fun _ => rfl) (fun _ => rfl) ?_)
  intro w50 b50 hle hW hb
  have HN50 : Hid (WAt w50 b50 (ones x 50)) := hW
  have HL50 : Hid (Below _ _ w50) := hb
  clear hW hb
  have HK1_50 : Hid (WAt w50 w.heap.size (ones x 1)) := HK1_40.out.below HL50.out HK1_40.out.lt
  have HR50 : Hid (WAt w50 (w.heap.size + 1) 0) := HR40.out.below HL50.out HR40.out.lt
  have HB50 : Hid (Below w.heap.size w w50) := HB40.out.trans (HL50.out.mono HB40.out.size)
  go_wp2_with (first | refine load_w rfl _ rfl w.heap.size (ones x 1) rfl HK1_50.out ?_ | refine load_w rfl _ rfl b50 (ones x 50) rfl HN50.out ?_ | refine l_let rfl 113 #[.agg (fw (ones x 50)), .int .i64 50, .agg (fw (ones x 50))] (ones x 100) (fun _ => by kernel_rfl) (join_ones x 50 50 (by decide) _) rfl rfl rfl rfl (fun _ => rfl) (fun _ => rfl) ?_)
  intro w100 b100 hle hW hb
  have HN100 : Hid (WAt w100 b100 (ones x 100)) := hW
  have HL100 : Hid (Below _ _ w100) := hb
  clear hW hb
  have HK1_100 : Hid (WAt w100 w.heap.size (ones x 1)) := HK1_50.out.below HL100.out HK1_50.out.lt
  have HK50_100 : Hid (WAt w100 b50 (ones x 50)) := HN50.out.below HL100.out HN50.out.lt
  have HR100 : Hid (WAt w100 (w.heap.size + 1) 0) := HR50.out.below HL100.out HR50.out.lt
  have HB100 : Hid (Below w.heap.size w w100) := HB50.out.trans (HL100.out.mono HB50.out.size)
  go_wp2_with (first | refine load_w rfl _ rfl w.heap.size (ones x 1) rfl HK1_100.out ?_ | refine load_w rfl _ rfl b50 (ones x 50) rfl HK50_100.out ?_ | refine load_w rfl _ rfl b100 (ones x 100) rfl HN100.out ?_ | refine l_let rfl 113 #[.agg (fw (ones x 100)), .int .i64 100, .agg (fw (ones x 100))] (ones x 200) (fun _ => by kernel_rfl) (join_ones x 100 100 (by decide) _) rfl rfl rfl rfl (fun _ => rfl) (fun _ => rfl) ?_)
  intro w200 b200 hle hW hb
  have HN200 : Hid (WAt w200 b200 (ones x 200)) := hW
  have HL200 : Hid (Below _ _ w200) := hb
  clear hW hb
  have HK1_200 : Hid (WAt w200 w.heap.size (ones x 1)) := HK1_100.out.below HL200.out HK1_100.out.lt
  have HK50_200 : Hid (WAt w200 b50 (ones x 50)) := HK50_100.out.below HL200.out HK50_100.out.lt
  have HR200 : Hid (WAt w200 (w.heap.size + 1) 0) := HR100.out.below HL200.out HR100.out.lt
  have HB200 : Hid (Below w.heap.size w w200) := HB100.out.trans (HL200.out.mono HB100.out.size)
  go_wp2_with (first | refine load_w rfl _ rfl w.heap.size (ones x 1) rfl HK1_200.out ?_ | refine load_w rfl _ rfl b50 (ones x 50) rfl HK50_200.out ?_ | refine load_w rfl _ rfl b200 (ones x 200) rfl HN200.out ?_ | refine l_let rfl 113 #[.agg (fw (ones x 200)), .int .i64 50, .agg (fw (ones x 50))] (ones x 250) (fun _ => by kernel_rfl) (join_ones x 200 50 (by decide) _) rfl rfl rfl rfl (fun _ => rfl) (fun _ => rfl) ?_)
  intro w250 b250 hle hW hb
  have HN250 : Hid (WAt w250 b250 (ones x 250)) := hW
  have HL250 : Hid (Below _ _ w250) := hb
  clear hW hb
  have HK1_250 : Hid (WAt w250 w.heap.size (ones x 1)) := HK1_200.out.below HL250.out HK1_200.out.lt
  have HR250 : Hid (WAt w250 (w.heap.size + 1) 0) := HR200.out.below HL250.out HR200.out.lt
  have HB250 : Hid (Below w.heap.size w w250) := HB200.out.trans (HL250.out.mono HB200.out.size)
  go_wp2_with (first | refine load_w rfl _ rfl w.heap.size (ones x 1) rfl HK1_250.out ?_ | refine load_w rfl _ rfl b250 (ones x 250) rfl HN250.out ?_ | refine l_call rfl 113 #[.agg (fw (ones x 250)), .int .i64 2, .agg (fw (ones x 1))] _ (fun _ => by kernel_rfl) (join_last x _) ?_)
  intro we hb
  have HE : Hid (Below _ _ we) := hb
  clear hb
  have HR : Hid (WAt we (w.heap.size + 1) 0) := HR250.out.below HE.out HR250.out.lt
  go_wp2_with (refine store_w rfl _ _ rfl (w.heap.size + 1) (Ed.fpow x Ed.e8) 0 rfl rfl HR.out ?_)
  exact ret_w Tryd.results103 rfl (w.heap.size + 1) (Ed.fpow x Ed.e8) rfl (HR.out.setRow _) ⟨rfl, below_store HB250.out HE.out _ (by omega) _⟩
theorem power_f (x : Ed.F) (w : World) :
    Calls Tryd.prog 103 #[.agg (fw x)] w fun e w' => e = .returned (.agg (fw (Ed.fpow x Ed.e8))) ∧ Below w.heap.size w w' := by
  have h := power_o x w
  rwa [ones_one] at h
end Fw
end Go.Proofs.YtbojijefenfbgaaDoor
