/- Walks of the program's field over F: Square, Neg, squares, join, power, Inverse, Root. Walks of the program's field over F: power, Inverse. Walks of the program's field over F: Inverse, Root. Walk of the program's field over F: Root. Walks of the program's curve: points; affine, Neg, fromQuotients. -/
import Derived.Test.YtbojijefenfbgaaGreatDoorTtShort
import Derived.Test.YtbojijefenfbgaaGreatDoorTtPrimes
import Derived.ChangeKeysEq
set_option maxRecDepth 100000
namespace Go.Proofs.YtbojijefenfbgaaGreatDoor
open Go.RowKit
namespace Fw
open Bt
def WAt (w : World) (b : Nat) (x : Ed.F) : Prop := w.heap[b]? = some (.cells (fw x) 161 (0, 0))
theorem WAt.lt {w : World} {b : Nat} {x : Ed.F} (h : WAt w b x) : b < w.heap.size := (aL h)
theorem WAt.below {w w' : World} {b : Nat} {x : Ed.F} (h : WAt w b x) {k : Nat} (hb : Below k w w') (hk : b < k) : WAt w' b x := (hb.block b hk).trans h
theorem y0v : fw 0 = z0l := by rw [z2t]; rfl
theorem WAt.zero {w : World} {b : Nat} (h : w.heap[b]? = some (.cells z0l 161 (0, 0))) : WAt w b 0 := by unfold WAt; rw [y0v]; exact h
theorem j0e (x : Ed.F) (w : World) :
  Calls Tryz.prog 226 #[.agg #[.int .u64 0, .int .u64 0, .int .u64 0, .int .u64 0], .agg (fw x)] w fun e w' => e = .returned (.agg (fw (0 - x))) ∧ Below w.heap.size w w' := by
 have h := y2m 0 x w
 rwa [y0v] at h
theorem z0d (w : World) (o : Obj) (b : Nat) (hb : b = w.heap.size) : (w.alloc o).heap[b]? = some o := by rw [hb]; exact heap_alloc_new w o
theorem WAt.setRow {w : World} {b : Nat} {x : Ed.F} (h : WAt w b x) (y : Ed.F) : WAt (w.setRow b (fw y)) b y := setRow_heap _ _ _ _ _ _ h
noncomputable abbrev W2 (w : World) (x : Ed.F) : World := (w.alloc (.cells (fw x) 161)).alloc (.cells z0l 161)
noncomputable abbrev W3 (w : World) (x y : Ed.F) : World := ((w.alloc (.cells (fw x) 161)).alloc (.cells (fw y) 161)).alloc (.cells z0l 161)
theorem q5h (w : World) (x : Ed.F) : WAt (W2 w x) w.heap.size x := WAt.below (z0d w _ _ rfl) ((Below.refl (w.heap.size + 1) _).alloc (by simp) _) (by omega)
theorem q0k (w : World) (x : Ed.F) : WAt (W2 w x) (w.heap.size + 1) 0 := .zero (z0d _ _ _ (by simp))
theorem k2g (w : World) (x : Ed.F) : Below w.heap.size w (W2 w x) := ((Below.refl _ _).alloc (Nat.le_refl _) _).alloc (by simp) _
theorem k8g (w : World) (x y : Ed.F) : WAt (W3 w x y) w.heap.size x := WAt.below (z0d w _ _ rfl) (((Below.refl (w.heap.size + 1) _).alloc (by simp) _).alloc (by simp) _) (by omega)
theorem k2t (w : World) (x y : Ed.F) : WAt (W3 w x y) (w.heap.size + 1) y := WAt.below (z0d _ _ _ (by simp)) ((Below.refl (w.heap.size + 2) _).alloc (by simp) _) (by omega)
theorem k7q (w : World) (x y : Ed.F) : WAt (W3 w x y) (w.heap.size + 1 + 1) 0 := .zero (z0d _ _ _ (by simp))
theorem k8h (w : World) (x y : Ed.F) : Below w.heap.size w (W3 w x y) := (((Below.refl _ _).alloc (Nat.le_refl _) _).alloc (by simp) _).alloc (by simp; omega) _
theorem z0r {w W w1 : World} (h : Below w.heap.size w W) (h1 : Below W.heap.size W w1) (b : Nat) (hb : w.heap.size ≤ b) (cs : Array Value) : Below w.heap.size w (w1.setRow b cs) :=
 (h.trans (h1.mono h.size)).trans ((z0a w1 b cs).mono hb)
theorem z0y {ops : Array Oper} {rest : List Oper} {o : Oper} {a : Act} {w : World} {Q : Exit → Act → World → Prop} (hg : o.guard = none) (x : Operand) (ho : o.op = .load 161 x) (b : Nat) (v : Ed.F) (hx : a.eval x = .pointer (some ⟨b, 0, none⟩)) (hb : WAt w b v)
  (h : wpList Tryz.prog ops Q rest (a.put o.dst (.agg (fw v))) w) : wpList Tryz.prog ops Q (o :: rest) a w :=
 wpList_load_row hg 161 x ho b hx 161 (fw v) (0, 0) _ hb Tryz.underlying161 rfl (by rw [z0w]; kernel_rfl) h
theorem z2h {ops : Array Oper} {rest : List Oper} {o : Oper} {a : Act} {w : World} {Q : Exit → Act → World → Prop} (hg : o.guard = none) (x y : Operand) (ho : o.op = .store 161 x y) (b : Nat) (v old : Ed.F) (hx : a.eval x = .pointer (some ⟨b, 0, none⟩)) (hy : a.eval y = .agg (fw v)) (hb : WAt w b old)
  (h : wpList Tryz.prog ops Q rest (a.put o.dst undef) (w.setRow b (fw v))) : wpList Tryz.prog ops Q (o :: rest) a w :=
 wpList_store_row hg 161 x y ho b (fw v) hx hy 161 (fw old) hb (by rw [z0w]; kernel_rfl) ((z0w _).trans (z0w _).symm) (y6j v) h
theorem x4n {fn : Func} {p : Tmp} (h : fn.results = #[.cell p 161]) {post : Ending → World → Prop} {a : Act} {w : World} (hd : a.defers = []) (g : Nat) (v : Ed.F) (hp : a.tmps.getD p undef = .pointer (some ⟨g, 0, none⟩)) (hg : WAt w g v) (hpost : post (.returned (.agg (fw v))) w) :
  bodyPost Tryz.prog fn post .ret a w :=
 Own.z1g h hd g 161 (fw v) (0, 0) _ hp hg Tryz.underlying161 rfl (by rw [z0w]; kernel_rfl) hpost
theorem y7f {ops : Array Oper} {w : World} {Q : Act → Prop} {rest : List Oper} {o : Oper} {a : Act} (hg : o.guard = none) (x : Operand) (ho : o.op = .load 161 x) (b : Nat) (v : Ed.F) (hx : a.eval x = .pointer (some ⟨b, 0, none⟩)) (hb : WAt w b v)
  (h : wpQuiet Tryz.prog ops (Qt.BW w) Q rest (a.put o.dst (.agg (fw v)))) : wpQuiet Tryz.prog ops (Qt.BW w) Q (o :: rest) a :=
 Qt.k9u hg 161 x ho b hx 161 (fw v) (0, 0) _ hb Tryz.underlying161 rfl (by rw [z0w]; kernel_rfl) h
set_option maxHeartbeats 400000 in
theorem z3g (x : Ed.F) (w : World) :
  Calls Tryz.prog 224 #[.agg (fw x)] w fun e w' => e = .returned (.agg (fw (x * x))) ∧ Below w.heap.size w w' := by
 go_enter Tryz.func224, Tryz.ntmps224
 go_wp2_with (refine z0y rfl _ rfl w.heap.size x rfl (q5h w x) ?_)
 refine (z3x x x _).mono ?_
 rintro e w1 ⟨rfl, hb⟩
 have HB : Hid (Below (W2 w x).heap.size (W2 w x) w1) := hb
 clear hb
 have HR : Hid (WAt w1 (w.heap.size + 1) 0) := (q0k w x).below HB.out (q0k w x).lt
 go_wp2_with (refine z2h rfl _ _ rfl (w.heap.size + 1) (x * x) 0 rfl rfl HR.out ?_)
 exact x4n Tryz.results224 rfl (w.heap.size + 1) (x * x) rfl (HR.out.setRow _) ⟨rfl, z0r (k2g w x) HB.out _ (by omega) _⟩
set_option maxHeartbeats 400000 in
theorem x4f (x : Ed.F) (w : World) :
  Calls Tryz.prog 177 #[.agg (fw x)] w fun e w' => e = .returned (.agg (fw (0 - x))) ∧ Below w.heap.size w w' := by
 go_enter Tryz.func177, Tryz.ntmps177
 go_wp2_with (refine z0y rfl _ rfl w.heap.size x rfl (q5h w x) ?_)
 refine (j0e x _).mono ?_
 rintro e w1 ⟨rfl, hb⟩
 have HB : Hid (Below (W2 w x).heap.size (W2 w x) w1) := hb
 clear hb
 have HR : Hid (WAt w1 (w.heap.size + 1) 0) := (q0k w x).below HB.out (q0k w x).lt
 go_wp2_with (refine z2h rfl _ _ rfl (w.heap.size + 1) (0 - x) 0 rfl rfl HR.out ?_)
 exact x4n Tryz.results177 rfl (w.heap.size + 1) (0 - x) rfl (HR.out.setRow _) ⟨rfl, z0r (k2g w x) HB.out _ (by omega) _⟩
theorem q8h (x : Ed.F) (k : Nat) : Ed.z2r x (2 ^ k) * Ed.z2r x (2 ^ k) = Ed.z2r x (2 ^ (k + 1)) := by
 rw [← Ed.z2m, Nat.pow_succ]
 congr 1
 omega
theorem WAt.other {w : World} {b c : Nat} {x : Ed.F} (h : WAt w b x) (hne : b ≠ c) (cs : Array Value) : WAt (w.setRow c cs) b x := by
 unfold WAt at *
 rw [← h]
 show (Array.modify _ _ _)[b]? = _
 rw [Array.getElem?_modify, if_neg (Ne.symm hne)]
set_option maxHeartbeats 400000 in
theorem y7r (x : Ed.F) (n : Nat) (hn : n ≤ 1000) (w : World) :
  Calls Tryz.prog 241 #[.agg (fw x), .int .i64 n] w fun e w' => e = .returned (.agg (fw (Ed.z2r x (2 ^ n)))) ∧ Below w.heap.size w w' := by
 go_enter Tryz.func241, Tryz.ntmps241
 go_wp2_with fail
 go_loopw [6] (fun i wq => ∃ k : Nat, k ≤ n ∧ i = .int .i64 (k : Int) ∧ WAt wq w.heap.size (Ed.z2r x (2 ^ k)) ∧ WAt wq (w.heap.size + 1) 0 ∧ Below w.heap.size w wq) (fun i _ => n - (intOf i).toNat)
 case atStart => exact ⟨0, by omega, rfl, by rw [Nat.pow_zero, Ed.z5i]; exact q5h w x, q0k w x, k2g w x⟩
 case round =>
  rename World => wa
  obtain ⟨k, hk, rfl, ha, hr, hb⟩ := hrel
  have HA : Hid (WAt wa w.heap.size (Ed.z2r x (2 ^ k))) := ha
  have HR : Hid (WAt wa (w.heap.size + 1) 0) := hr
  have HB : Hid (Below w.heap.size w wa) := hb
  clear ha hr hb
  by_cases hkn : k < n
  ·go_wp2_with (first
    | (go_at_call 224; refine (z3g (Ed.z2r x (2 ^ k)) _).mono ?_; rintro e w2 ⟨rfl, hb2⟩; rw [q8h] at *; have HB2 : Hid (Below wa.heap.size wa w2) := hb2; clear hb2)
    | refine z0y rfl _ rfl w.heap.size (Ed.z2r x (2 ^ k)) rfl HA.out ?_
    | refine z2h rfl _ _ rfl w.heap.size (Ed.z2r x (2 ^ (k + 1))) (Ed.z2r x (2 ^ k)) rfl rfl (HA.out.below HB2.out HA.out.lt) ?_)
   exact ⟨⟨k + 1, by omega, by go_num, (HA.out.below HB2.out HA.out.lt).setRow _, (HR.out.below HB2.out HR.out.lt).other (by omega) _, z0r HB.out HB2.out _ (Nat.le_refl _) _⟩, by simp [intOf]; omega⟩
  ·obtain rfl : k = n := by omega
   go_wp2_with (first
    | refine z0y rfl _ rfl w.heap.size (Ed.z2r x (2 ^ k)) rfl HA.out ?_
    | refine z2h rfl _ _ rfl (w.heap.size + 1) (Ed.z2r x (2 ^ k)) 0 rfl rfl HR.out ?_)
   exact x4n Tryz.results241 rfl (w.heap.size + 1) (Ed.z2r x (2 ^ k)) rfl (HR.out.setRow _) ⟨rfl, HB.out.trans ((z0a _ _ _).mono (by omega))⟩
set_option maxHeartbeats 400000 in
theorem q5u (x y : Ed.F) (n : Nat) (hn : n ≤ 1000) (w : World) :
  Calls Tryz.prog 273 #[.agg (fw x), .int .i64 n, .agg (fw y)] w fun e w' => e = .returned (.agg (fw (Ed.z2r x (2 ^ n) * y))) ∧ Below w.heap.size w w' := by
 go_enter Tryz.func273, Tryz.ntmps273
 go_wp2_with fail
 refine Qt.z2i 5 (by kernel_rfl) (by kernel_rfl) ?_
 refine y7f rfl _ rfl w.heap.size x rfl (k8g w x y) ?_
 refine Qt.k6f rfl _ (fun _ _ => rfl) ?_
 refine Qt.y1h rfl 241 #[.agg (fw x), .int .i64 n] _ (fun _ => by kernel_rfl) (fun w' _ => y7r x n hn w') ?_
 refine y7f rfl _ rfl (w.heap.size + 1) y rfl (k2t w x y) ?_
 refine Qt.y1h rfl 179 #[.agg (fw (Ed.z2r x (2 ^ n))), .agg (fw y)] _ (fun _ => by kernel_rfl) (fun w' _ => z3x _ y w') ?_
 refine wpQuiet_nil ?_
 intro w1 hb
 have HB : Hid (Below (W3 w x y).heap.size (W3 w x y) w1) := hb
 clear hb
 have HR : Hid (WAt w1 (w.heap.size + 1 + 1) 0) := (k7q w x y).below HB.out (k7q w x y).lt
 refine z2h rfl _ _ rfl (w.heap.size + 1 + 1) (Ed.z2r x (2 ^ n) * y) 0 rfl rfl HR.out ?_
 go_wp2_with fail
 exact x4n Tryz.results273 rfl (w.heap.size + 1 + 1) (Ed.z2r x (2 ^ n) * y) rfl (HR.out.setRow _) ⟨rfl, z0r (k8h w x y) HB.out _ (by omega) _⟩
end Fw
open Go.RowKit
namespace Fw
open Bt
theorem x7d {ops : Array Oper} {rest : List Oper} {oa os : Oper} {a : Act} {w : World} {Q : Exit → Act → World → Prop} {x y : Operand} (hga : oa.guard = none) (ha : oa.op = .alloc 161) (hgs : os.guard = none) (hs : os.op = .store 161 x y) (v : Ed.F)
  (hx : ∀ b, (a.put oa.dst (.pointer (some ⟨b, 0, none⟩))).eval x = .pointer (some ⟨b, 0, none⟩)) (hy : ∀ b, (a.put oa.dst (.pointer (some ⟨b, 0, none⟩))).eval y = .agg (fw v))
  (h : ∀ w2 b, w.heap.size ≤ b → WAt w2 b v → Below w.heap.size w w2 → wpList Tryz.prog ops Q rest ((a.put oa.dst (.pointer (some ⟨b, 0, none⟩))).put os.dst undef) w2) : wpList Tryz.prog ops Q (oa :: os :: rest) a w := by
 refine Own.z0t _ hga 161 ha z0l (by kernel_rfl) ?_
 have hz : WAt (w.alloc (.cells z0l 161)) w.heap.size 0 := .zero (z0d _ _ _ rfl)
 refine z2h hgs x y hs w.heap.size v 0 (hx _) (hy _) hz ?_
 exact h _ _ (Nat.le_refl _) (hz.setRow v) (((Below.refl _ _).alloc (Nat.le_refl _) _).trans (z0a _ _ _))
theorem x1f {ops : Array Oper} {rest : List Oper} {o : Oper} {a : Act} {w : World} {Q : Exit → Act → World → Prop} (hg : o.guard = none) (f : FuncId) (args : Array Value) (v : Value) (hv : ∀ w', (execOp a.eval o).run Tryz.prog w' = .ok (.enter f args) w')
  (hc : Calls Tryz.prog f args w fun e w' => e = .returned v ∧ Below w.heap.size w w') (h : ∀ w', Below w.heap.size w w' → wpList Tryz.prog ops Q rest (a.put o.dst v) w') : wpList Tryz.prog ops Q (o :: rest) a w := by
 refine wpList_plain hg fun K hK => ?_
 unfold Oper.wp
 rw [hv w]
 exact hc.mono fun e w' ⟨he, hb⟩ => by subst he; exact hK _ _ (h w' hb)
theorem y2h {ops : Array Oper} {rest : List Oper} {oc oa os : Oper} {a : Act} {w : World} {Q : Exit → Act → World → Prop} {x y : Operand} (hg : oc.guard = none) (f : FuncId) (args : Array Value) (v : Ed.F) (hv : ∀ w', (execOp a.eval oc).run Tryz.prog w' = .ok (.enter f args) w')
  (hc : Calls Tryz.prog f args w fun e w' => e = .returned (.agg (fw v)) ∧ Below w.heap.size w w')
  (hga : oa.guard = none) (ha : oa.op = .alloc 161) (hgs : os.guard = none) (hs : os.op = .store 161 x y)
  (hx : ∀ b, ((a.put oc.dst (.agg (fw v))).put oa.dst (.pointer (some ⟨b, 0, none⟩))).eval x = .pointer (some ⟨b, 0, none⟩)) (hy : ∀ b, ((a.put oc.dst (.agg (fw v))).put oa.dst (.pointer (some ⟨b, 0, none⟩))).eval y = .agg (fw v))
  (h : ∀ w2 b, w.heap.size ≤ b → WAt w2 b v → Below w.heap.size w w2 → wpList Tryz.prog ops Q rest (((a.put oc.dst (.agg (fw v))).put oa.dst (.pointer (some ⟨b, 0, none⟩))).put os.dst undef) w2) : wpList Tryz.prog ops Q (oc :: oa :: os :: rest) a w :=
 x1f hg f args _ hv hc fun _w1 hb1 => x7d hga ha hgs hs v hx hy fun w2 b hle hW hb2 => h w2 b (Nat.le_trans hb1.size hle) hW (hb1.trans (hb2.mono hb1.size))
def z1d (x : Ed.F) (n : Nat) : Ed.F := Ed.z2r x (2 ^ n - 1)
theorem q3f (x : Ed.F) : z1d x 1 = x := Ed.z5i x
theorem x8b (x : Ed.F) (m n : Nat) : Ed.z2r (z1d x m) (2 ^ n) * z1d x n = z1d x (m + n) := by
 unfold z1d
 rw [Ed.z7z, ← Ed.z2m]
 congr 1
 have h1 : 0 < 2 ^ n := Nat.two_pow_pos n
 have h2 : 0 < 2 ^ m := Nat.two_pow_pos m
 rw [Nat.sub_mul, Nat.one_mul, Nat.pow_add]
 have h3 : 2 ^ n ≤ 2 ^ m * 2 ^ n := Nat.le_mul_of_pos_left _ h2
 omega
theorem z2l (x : Ed.F) (m n : Nat) (hn : n ≤ 1000) (w : World) :
  Calls Tryz.prog 273 #[.agg (fw (z1d x m)), .int .i64 n, .agg (fw (z1d x n))] w fun e w' => e = .returned (.agg (fw (z1d x (m + n)))) ∧ Below w.heap.size w w' := by
 rw [← x8b]
 exact q5u (z1d x m) (z1d x n) n hn w
theorem x7a (x : Ed.F) (w : World) :
  Calls Tryz.prog 273 #[.agg (fw (z1d x 250)), .int .i64 2, .agg (fw (z1d x 1))] w fun e w' => e = .returned (.agg (fw (Ed.z2r x Ed.e8))) ∧ Below w.heap.size w w' := by
 have h := q5u (z1d x 250) (z1d x 1) 2 (by decide) w
 have e : Ed.z2r (z1d x 250) (2 ^ 2) * z1d x 1 = Ed.z2r x Ed.e8 := by
  unfold z1d
  rw [Ed.z7z, ← Ed.z2m]
  congr 1
 rw [e] at h
 exact h
set_option maxHeartbeats 1000000 in
theorem k0g (x : Ed.F) (w : World) :
  Calls Tryz.prog 240 #[.agg (fw (z1d x 1))] w fun e w' => e = .returned (.agg (fw (Ed.z2r x Ed.e8))) ∧ Below w.heap.size w w' := by
 have HA : Hid (WAt (W2 w (z1d x 1)) w.heap.size (z1d x 1)) := q5h w (z1d x 1)
 have HR : Hid (WAt (W2 w (z1d x 1)) (w.heap.size + 1) 0) := q0k w (z1d x 1)
 have HB : Hid (Below w.heap.size w (W2 w (z1d x 1))) := k2g w (z1d x 1)
 go_enter Tryz.func240, Tryz.ntmps240
 go_wp2_with (first | refine z0y rfl _ rfl w.heap.size (z1d x 1) rfl HA.out ?_ | refine y2h rfl 273 #[.agg (fw (z1d x 1)), .int .i64 1, .agg (fw (z1d x 1))] (z1d x 2) (fun _ => by kernel_rfl) (z2l x 1 1 (by decide) _) rfl rfl rfl rfl (fun _ => rfl) (fun _ => rfl) ?_)
 intro w2 b2 hle hW hb
 have HN2 : Hid (WAt w2 b2 (z1d x 2)) := hW
 have HL2 : Hid (Below (W2 w (z1d x 1)).heap.size (W2 w (z1d x 1)) w2) := hb.mono (by simp)
 clear hW hb
 have HK1_2 : Hid (WAt w2 w.heap.size (z1d x 1)) := HA.out.below HL2.out HA.out.lt
 have HR2 : Hid (WAt w2 (w.heap.size + 1) 0) := HR.out.below HL2.out HR.out.lt
 have HB2 : Hid (Below w.heap.size w w2) := HB.out.trans (HL2.out.mono HB.out.size)
 go_wp2_with (first | refine z0y rfl _ rfl w.heap.size (z1d x 1) rfl HK1_2.out ?_ | refine z0y rfl _ rfl b2 (z1d x 2) rfl HN2.out ?_ | refine y2h rfl 273 #[.agg (fw (z1d x 2)), .int .i64 2, .agg (fw (z1d x 2))] (z1d x 4) (fun _ => by kernel_rfl) (z2l x 2 2 (by decide) _) rfl rfl rfl rfl (fun _ => rfl) (fun _ => rfl) ?_)
 intro w4 b4 hle hW hb
 have HN4 : Hid (WAt w4 b4 (z1d x 4)) := hW
 have HL4 : Hid (Below _ _ w4) := hb
 clear hW hb
 have HK1_4 : Hid (WAt w4 w.heap.size (z1d x 1)) := HK1_2.out.below HL4.out HK1_2.out.lt
 have HR4 : Hid (WAt w4 (w.heap.size + 1) 0) := HR2.out.below HL4.out HR2.out.lt
 have HB4 : Hid (Below w.heap.size w w4) := HB2.out.trans (HL4.out.mono HB2.out.size)
 go_wp2_with (first | refine z0y rfl _ rfl w.heap.size (z1d x 1) rfl HK1_4.out ?_ | refine z0y rfl _ rfl b4 (z1d x 4) rfl HN4.out ?_ | refine y2h rfl 273 #[.agg (fw (z1d x 4)), .int .i64 1, .agg (fw (z1d x 1))] (z1d x 5) (fun _ => by kernel_rfl) (z2l x 4 1 (by decide) _) rfl rfl rfl rfl (fun _ => rfl) (fun _ => rfl) ?_)
 intro w5 b5 hle hW hb
 have HN5 : Hid (WAt w5 b5 (z1d x 5)) := hW
 have HL5 : Hid (Below _ _ w5) := hb
 clear hW hb
 have HK1_5 : Hid (WAt w5 w.heap.size (z1d x 1)) := HK1_4.out.below HL5.out HK1_4.out.lt
 have HR5 : Hid (WAt w5 (w.heap.size + 1) 0) := HR4.out.below HL5.out HR4.out.lt
 have HB5 : Hid (Below w.heap.size w w5) := HB4.out.trans (HL5.out.mono HB4.out.size)
 go_wp2_with (first | refine z0y rfl _ rfl w.heap.size (z1d x 1) rfl HK1_5.out ?_ | refine z0y rfl _ rfl b5 (z1d x 5) rfl HN5.out ?_ | refine y2h rfl 273 #[.agg (fw (z1d x 5)), .int .i64 5, .agg (fw (z1d x 5))] (z1d x 10) (fun _ => by kernel_rfl) (z2l x 5 5 (by decide) _) rfl rfl rfl rfl (fun _ => rfl) (fun _ => rfl) ?_)
 intro w10 b10 hle hW hb
 have HN10 : Hid (WAt w10 b10 (z1d x 10)) := hW
 have HL10 : Hid (Below _ _ w10) := hb
 clear hW hb
 have HK1_10 : Hid (WAt w10 w.heap.size (z1d x 1)) := HK1_5.out.below HL10.out HK1_5.out.lt
 have HR10 : Hid (WAt w10 (w.heap.size + 1) 0) := HR5.out.below HL10.out HR5.out.lt
 have HB10 : Hid (Below w.heap.size w w10) := HB5.out.trans (HL10.out.mono HB5.out.size)
 go_wp2_with (first | refine z0y rfl _ rfl w.heap.size (z1d x 1) rfl HK1_10.out ?_ | refine z0y rfl _ rfl b10 (z1d x 10) rfl HN10.out ?_ | refine y2h rfl 273 #[.agg (fw (z1d x 10)), .int .i64 10, .agg (fw (z1d x 10))] (z1d x 20) (fun _ => by kernel_rfl) (z2l x 10 10 (by decide) _) rfl rfl rfl rfl (fun _ => rfl) (fun _ => rfl) ?_)
 intro w20 b20 hle hW hb
 have HN20 : Hid (WAt w20 b20 (z1d x 20)) := hW
 have HL20 : Hid (Below _ _ w20) := hb
 clear hW hb
 have HK1_20 : Hid (WAt w20 w.heap.size (z1d x 1)) := HK1_10.out.below HL20.out HK1_10.out.lt
 have HK10_20 : Hid (WAt w20 b10 (z1d x 10)) := HN10.out.below HL20.out HN10.out.lt
 have HR20 : Hid (WAt w20 (w.heap.size + 1) 0) := HR10.out.below HL20.out HR10.out.lt
 have HB20 : Hid (Below w.heap.size w w20) := HB10.out.trans (HL20.out.mono HB10.out.size)
 go_wp2_with (first | refine z0y rfl _ rfl w.heap.size (z1d x 1) rfl HK1_20.out ?_ | refine z0y rfl _ rfl b10 (z1d x 10) rfl HK10_20.out ?_ | refine z0y rfl _ rfl b20 (z1d x 20) rfl HN20.out ?_ | refine y2h rfl 273 #[.agg (fw (z1d x 20)), .int .i64 20, .agg (fw (z1d x 20))] (z1d x 40) (fun _ => by kernel_rfl) (z2l x 20 20 (by decide) _) rfl rfl rfl rfl (fun _ => rfl) (fun _ => rfl) ?_)
 intro w40 b40 hle hW hb
 have HN40 : Hid (WAt w40 b40 (z1d x 40)) := hW
 have HL40 : Hid (Below _ _ w40) := hb
 clear hW hb
 have HK1_40 : Hid (WAt w40 w.heap.size (z1d x 1)) := HK1_20.out.below HL40.out HK1_20.out.lt
 have HK10_40 : Hid (WAt w40 b10 (z1d x 10)) := HK10_20.out.below HL40.out HK10_20.out.lt
 have HR40 : Hid (WAt w40 (w.heap.size + 1) 0) := HR20.out.below HL40.out HR20.out.lt
 have HB40 : Hid (Below w.heap.size w w40) := HB20.out.trans (HL40.out.mono HB20.out.size)
 go_wp2_with (first | refine z0y rfl _ rfl w.heap.size (z1d x 1) rfl HK1_40.out ?_ | refine z0y rfl _ rfl b10 (z1d x 10) rfl HK10_40.out ?_ | refine z0y rfl _ rfl b40 (z1d x 40) rfl HN40.out ?_ | refine y2h rfl 273 #[.agg (fw (z1d x 40)), .int .i64 10, .agg (fw (z1d x 10))] (z1d x 50) (fun _ => by kernel_rfl) (z2l x 40 10 (by decide) _) rfl rfl rfl rfl (fun _ => rfl) (fun _ => rfl) ?_)
 intro w50 b50 hle hW hb
 have HN50 : Hid (WAt w50 b50 (z1d x 50)) := hW
 have HL50 : Hid (Below _ _ w50) := hb
 clear hW hb
 have HK1_50 : Hid (WAt w50 w.heap.size (z1d x 1)) := HK1_40.out.below HL50.out HK1_40.out.lt
 have HR50 : Hid (WAt w50 (w.heap.size + 1) 0) := HR40.out.below HL50.out HR40.out.lt
 have HB50 : Hid (Below w.heap.size w w50) := HB40.out.trans (HL50.out.mono HB40.out.size)
 go_wp2_with (first | refine z0y rfl _ rfl w.heap.size (z1d x 1) rfl HK1_50.out ?_ | refine z0y rfl _ rfl b50 (z1d x 50) rfl HN50.out ?_ | refine y2h rfl 273 #[.agg (fw (z1d x 50)), .int .i64 50, .agg (fw (z1d x 50))] (z1d x 100) (fun _ => by kernel_rfl) (z2l x 50 50 (by decide) _) rfl rfl rfl rfl (fun _ => rfl) (fun _ => rfl) ?_)
 intro w100 b100 hle hW hb
 have HN100 : Hid (WAt w100 b100 (z1d x 100)) := hW
 have HL100 : Hid (Below _ _ w100) := hb
 clear hW hb
 have HK1_100 : Hid (WAt w100 w.heap.size (z1d x 1)) := HK1_50.out.below HL100.out HK1_50.out.lt
 have HK50_100 : Hid (WAt w100 b50 (z1d x 50)) := HN50.out.below HL100.out HN50.out.lt
 have HR100 : Hid (WAt w100 (w.heap.size + 1) 0) := HR50.out.below HL100.out HR50.out.lt
 have HB100 : Hid (Below w.heap.size w w100) := HB50.out.trans (HL100.out.mono HB50.out.size)
 go_wp2_with (first | refine z0y rfl _ rfl w.heap.size (z1d x 1) rfl HK1_100.out ?_ | refine z0y rfl _ rfl b50 (z1d x 50) rfl HK50_100.out ?_ | refine z0y rfl _ rfl b100 (z1d x 100) rfl HN100.out ?_ | refine y2h rfl 273 #[.agg (fw (z1d x 100)), .int .i64 100, .agg (fw (z1d x 100))] (z1d x 200) (fun _ => by kernel_rfl) (z2l x 100 100 (by decide) _) rfl rfl rfl rfl (fun _ => rfl) (fun _ => rfl) ?_)
 intro w200 b200 hle hW hb
 have HN200 : Hid (WAt w200 b200 (z1d x 200)) := hW
 have HL200 : Hid (Below _ _ w200) := hb
 clear hW hb
 have HK1_200 : Hid (WAt w200 w.heap.size (z1d x 1)) := HK1_100.out.below HL200.out HK1_100.out.lt
 have HK50_200 : Hid (WAt w200 b50 (z1d x 50)) := HK50_100.out.below HL200.out HK50_100.out.lt
 have HR200 : Hid (WAt w200 (w.heap.size + 1) 0) := HR100.out.below HL200.out HR100.out.lt
 have HB200 : Hid (Below w.heap.size w w200) := HB100.out.trans (HL200.out.mono HB100.out.size)
 go_wp2_with (first | refine z0y rfl _ rfl w.heap.size (z1d x 1) rfl HK1_200.out ?_ | refine z0y rfl _ rfl b50 (z1d x 50) rfl HK50_200.out ?_ | refine z0y rfl _ rfl b200 (z1d x 200) rfl HN200.out ?_ | refine y2h rfl 273 #[.agg (fw (z1d x 200)), .int .i64 50, .agg (fw (z1d x 50))] (z1d x 250) (fun _ => by kernel_rfl) (z2l x 200 50 (by decide) _) rfl rfl rfl rfl (fun _ => rfl) (fun _ => rfl) ?_)
 intro w250 b250 hle hW hb
 have HN250 : Hid (WAt w250 b250 (z1d x 250)) := hW
 have HL250 : Hid (Below _ _ w250) := hb
 clear hW hb
 have HK1_250 : Hid (WAt w250 w.heap.size (z1d x 1)) := HK1_200.out.below HL250.out HK1_200.out.lt
 have HR250 : Hid (WAt w250 (w.heap.size + 1) 0) := HR200.out.below HL250.out HR200.out.lt
 have HB250 : Hid (Below w.heap.size w w250) := HB200.out.trans (HL250.out.mono HB200.out.size)
 go_wp2_with (first | refine z0y rfl _ rfl w.heap.size (z1d x 1) rfl HK1_250.out ?_ | refine z0y rfl _ rfl b250 (z1d x 250) rfl HN250.out ?_ | refine x1f rfl 273 #[.agg (fw (z1d x 250)), .int .i64 2, .agg (fw (z1d x 1))] _ (fun _ => by kernel_rfl) (x7a x _) ?_)
 intro we hb
 have HE : Hid (Below _ _ we) := hb
 clear hb
 have HR : Hid (WAt we (w.heap.size + 1) 0) := HR250.out.below HE.out HR250.out.lt
 go_wp2_with (refine z2h rfl _ _ rfl (w.heap.size + 1) (Ed.z2r x Ed.e8) 0 rfl rfl HR.out ?_)
 exact x4n Tryz.results240 rfl (w.heap.size + 1) (Ed.z2r x Ed.e8) rfl (HR.out.setRow _) ⟨rfl, z0r HB250.out HE.out _ (by omega) _⟩
theorem x8l (x : Ed.F) (w : World) :
  Calls Tryz.prog 240 #[.agg (fw x)] w fun e w' => e = .returned (.agg (fw (Ed.z2r x Ed.e8))) ∧ Below w.heap.size w w' := by
 have h := k0g x w
 rwa [q3f] at h
end Fw
open Go.RowKit
namespace Fw
open Bt
theorem inv_eq (x p : Ed.F) (hp : p = Ed.z2r x Ed.e8) : Ed.z2r p (2 ^ 3) * x * (x * x) = Ed.inv x := by
 subst hp
 have e1 : x * x = Ed.z2r x 2 := by rw [show (2 : Nat) = 1 + 1 from rfl, Ed.z2m, Ed.z5i]
 have e2 : Ed.z2r (Ed.z2r x Ed.e8) (2 ^ 3) * x = Ed.z2r x (Ed.e8 * 2 ^ 3 + 1) := by rw [Ed.z2m, Ed.z5i, Ed.z7z]
 rw [e1, e2, ← Ed.z2m]
 unfold Ed.inv
 congr 1
theorem x9i (x : Ed.F) (w : World) :
  Calls Tryz.prog 241 #[.agg (fw x), .int .i64 3] w fun e w' => e = .returned (.agg (fw (Ed.z2r x (2 ^ 3)))) ∧ Below w.heap.size w w' := y7r x 3 (by decide) w
set_option maxHeartbeats 400000 in
theorem x6y (x : Ed.F) (w : World) :
  Calls Tryz.prog 178 #[.agg (fw x)] w fun e w' => e = .returned (.agg (fw (Ed.inv x))) ∧ Below w.heap.size w w' := by
 obtain ⟨p, hp⟩ : ∃ p, p = Ed.z2r x Ed.e8 := ⟨_, rfl⟩
 obtain ⟨s, hs⟩ : ∃ s, s = Ed.z2r p (2 ^ 3) := ⟨_, rfl⟩
 have hpow : Hid (∀ w, Calls Tryz.prog 240 #[.agg (fw x)] w fun e w' => e = .returned (.agg (fw p)) ∧ Below w.heap.size w w') := by rw [hp]; exact x8l x
 have hsq : Hid (∀ w, Calls Tryz.prog 241 #[.agg (fw p), .int .i64 3] w fun e w' => e = .returned (.agg (fw s)) ∧ Below w.heap.size w w') := by rw [hs]; exact x9i p
 have hfin : Hid (s * x * (x * x) = Ed.inv x) := by rw [hs]; exact inv_eq x p hp
 clear hp hs
 go_enter Tryz.func178, Tryz.ntmps178
 go_wp2_with fail
 refine Qt.z2i 8 (by kernel_rfl) (by kernel_rfl) ?_
 refine y7f rfl _ rfl w.heap.size x rfl (q5h w x) ?_
 refine Qt.y1h rfl 240 #[.agg (fw x)] (.agg (fw p)) (fun _ => by kernel_rfl) (fun w' _ => hpow.out w') ?_
 refine Qt.y1h rfl 241 #[.agg (fw p), .int .i64 3] (.agg (fw s)) (fun _ => by kernel_rfl) (fun w' _ => hsq.out w') ?_
 refine y7f rfl _ rfl w.heap.size x rfl (q5h w x) ?_
 refine Qt.y1h rfl 179 #[.agg (fw s), .agg (fw x)] _ (fun _ => by kernel_rfl) (fun w' _ => z3x _ x w') ?_
 refine y7f rfl _ rfl w.heap.size x rfl (q5h w x) ?_
 refine Qt.y1h rfl 224 #[.agg (fw x)] _ (fun _ => by kernel_rfl) (fun w' _ => z3g x w') ?_
 refine Qt.y1h rfl 179 #[.agg (fw (s * x)), .agg (fw (x * x))] _ (fun _ => by kernel_rfl) (fun w' _ => z3x _ _ w') ?_
 simp only [zD]
 refine wpQuiet_nil ?_
 intro w1 hb
 have HB : Hid (Below (W2 w x).heap.size (W2 w x) w1) := hb
 clear hb
 have HR : Hid (WAt w1 (w.heap.size + 1) 0) := (q0k w x).below HB.out (q0k w x).lt
 refine z2h rfl _ _ rfl (w.heap.size + 1) (s * x * (x * x)) 0 rfl rfl HR.out ?_
 rw [hfin.out]
 go_wp2_with fail
 exact x4n Tryz.results178 rfl (w.heap.size + 1) (Ed.inv x) rfl (HR.out.setRow _) ⟨rfl, z0r (k2g w x) HB.out _ (by omega) _⟩
end Fw
open Go.RowKit
namespace Fw
open Bt
theorem z0m {W : World} {K : Act → Prop} {l : List Oper} {o : Oper} {a : Act} (hg : o.guard = none) (x : Operand) (ho : o.op = .load 161 x) (b : Nat) (v : Ed.F) (hx : a.eval x = .pointer (some ⟨b, 0, none⟩)) (hb : WAt W b v)
  (h : Qt.Lex Tryz.prog W K l (a.put o.dst (.agg (fw v)))) : Qt.Lex Tryz.prog W K (o :: l) a :=
 Qt.z7g hg 161 x ho b hx 161 (fw v) (0, 0) _ hb Tryz.underlying161 rfl (by rw [z0w]; kernel_rfl) h
theorem z2v {ops : Array Oper} {rest : List Oper} {os : Oper} {a : Act} {w0 w : World} {Q : Exit → Act → World → Prop} {x y : Operand} (hgs : os.guard = none) (hs : os.op = .store 161 x y) (b : Nat) (v : Ed.F) (hx : a.eval x = .pointer (some ⟨b, 0, none⟩)) (hy : a.eval y = .agg (fw v))
  (hw : Below w0.heap.size w0 w) (hle : w0.heap.size ≤ b) (hb : w.heap[b]? = some (.cells z0l 161 (0, 0)))
  (h : ∀ w2, WAt w2 b v → Below w0.heap.size w0 w2 → wpList Tryz.prog ops Q rest (a.put os.dst undef) w2) : wpList Tryz.prog ops Q (os :: rest) a w :=
 z2h hgs x y hs b v 0 hx hy (.zero hb) (h _ ((WAt.zero hb).setRow v) (hw.trans ((z0a _ _ _).mono hle)))
theorem q1p (w : World) (xs ys : Array Value) (f g : Nat → BitVec 64) (l : List Nat) (hx : ∀ i ∈ l, xs[i]? = some (.int .u64 (un (f i)))) (hy : ∀ i ∈ l, ys[i]? = some (.int .u64 (un (g i)))) :
  (Op.eqItems 9999 159 1 xs ys l).run Tryz.prog w = .ok (l.all fun i => decide (f i = g i)) w := by
 induction l with
 | nil => simp [Op.eqItems]
 | cons i l ih =>
  have ih := ih (fun j hj => hx j (by simp [hj])) (fun j hj => hy j (by simp [hj]))
  have e1 := run_part_plain (P := Tryz.prog) w (e := 159) (by kernel_rfl) (hx i (by simp))
  have e2 := run_part_plain (P := Tryz.prog) w (e := 159) (by kernel_rfl) (hy i (by simp))
  have e3 := run_equalIn_int (P := Tryz.prog) (w := w) 9998 159 .u64 .u64 (un (f i)) (un (g i)) Tryz.underlying159
  simp only [Op.eqItems, Nat.mul_one, Sem.run_bind, e1, e2, e3, Result.andThen_ok]
  by_cases h : f i = g i
  ·have hb : (un (f i) == un (g i)) = true := by rw [h]; simp
   rw [hb]
   simp only [Bool.not_true, Bool.false_eq_true, if_false, ih, List.all_cons, h, decide_true, Bool.true_and]
  ·have hb : (un (f i) == un (g i)) = false := by
    rw [beq_eq_false_iff_ne]
    exact fun he => h (UV.k7e he)
   rw [hb]
   simp [h]
theorem x0w {p : Nat → Prop} (h0 : p 0) (h1 : p 1) (h2 : p 2) (h3 : p 3) : ∀ i ∈ [0, 1, 2, 3], p i := by simp [h0, h1, h2, h3]
theorem eq_q (a b : Q) (w : World) : Sem.run Tryz.prog (Op.equalIn 10000 161 (.agg a.cells) (.agg b.cells)) w = .ok (decide (a.a0 = b.a0) && (decide (a.a1 = b.a1) && (decide (a.a2 = b.a2) && decide (a.a3 = b.a3)))) w := by
 obtain ⟨i, hi⟩ := Option.isSome_iff_exists.1 (show (Tryz.prog.info? 159).isSome = true by kernel_rfl)
 have h1 := run_equalIn_array (P := Tryz.prog) w 9999 (t := 161) (e := 159) (n := 4) a.cells b.cells Tryz.underlying161 hi
 rw [h1, show Tryz.prog.cellsOf 159 = 1 by kernel_rfl, show List.range 4 = [0, 1, 2, 3] from rfl]
 rw [q1p w a.cells b.cells (fun i => match i with | 0 => a.a0 | 1 => a.a1 | 2 => a.a2 | _ => a.a3) (fun i => match i with | 0 => b.a0 | 1 => b.a1 | 2 => b.a2 | _ => b.a3) [0, 1, 2, 3] (x0w rfl rfl rfl rfl) (x0w rfl rfl rfl rfl)]
 simp only [List.all_cons, List.all_nil, Bool.and_true]
theorem k5r {x y : Ed.F} (h : nq x.val = nq y.val) : x = y := Fin.ext (by rw [← z4f x, ← z4f y, h])
theorem j2u (x y : Ed.F) (w : World) : Sem.run Tryz.prog (Op.equalIn 10000 161 (.agg (fw x)) (.agg (fw y))) w = .ok (decide (x = y)) w := by
 rw [z2t, z2t, eq_q]
 congr 1
 by_cases h : x = y
 ·subst h; simp
 ·have hn : nq x.val ≠ nq y.val := fun he => h (k5r he)
  rw [decide_eq_false h]
  generalize nq x.val = a at hn
  generalize nq y.val = b at hn
  obtain ⟨a0, a1, a2, a3⟩ := a
  obtain ⟨b0, b1, b2, b3⟩ := b
  simp only [ne_eq, Q.mk.injEq, not_and] at hn
  simp only [Bool.and_eq_false_iff, decide_eq_false_iff_not]
  by_cases e0 : a0 = b0
  ·by_cases e1 : a1 = b1
   ·by_cases e2 : a2 = b2
    ·exact .inr (.inr (.inr (hn e0 e1 e2)))
    ·exact .inr (.inr (.inl e2))
   ·exact .inr (.inl e1)
  ·exact .inl e0
theorem y9x {ops : Array Oper} {rest : List Oper} {o : Oper} {a : Act} {w : World} {Q : Exit → Act → World → Prop} (hg : o.guard = none) (x y : Operand) (ho : o.op = .store 161 x y) (b : Nat) (old : Ed.F) (hx : a.eval x = .pointer (some ⟨b, 0, none⟩)) (hy : a.eval y = .agg z0l) (hb : WAt w b old)
  (h : wpList Tryz.prog ops Q rest (a.put o.dst undef) (w.setRow b (fw 0))) : wpList Tryz.prog ops Q (o :: rest) a w := z2h hg x y ho b 0 old hx (by rw [y0v]; exact hy) hb h
theorem x2u (n : Nat) (h : n < 18446744073709551616) : un (BitVec.ofNat 64 n) = (n : Int) := UV.y5b n h
theorem y2r (x : Ed.F) (a0 a1 a2 a3 : Nat) (h : x.val = a0 + 18446744073709551616 * a1 + 340282366920938463463374607431768211456 * a2 + 6277101735386680763835789423207666416102355444464034512896 * a3) (h0 : a0 < 18446744073709551616) (h1 : a1 < 18446744073709551616) (h2 : a2 < 18446744073709551616) (h3 : a3 < 18446744073709551616) :
  fw x = #[.int .u64 (a0 : Int), .int .u64 (a1 : Int), .int .u64 (a2 : Int), .int .u64 (a3 : Int)] := by
 have e : nq x.val = ⟨BitVec.ofNat 64 a0, BitVec.ofNat 64 a1, BitVec.ofNat 64 a2, BitVec.ofNat 64 a3⟩ := by
  refine (y2j (q := ⟨BitVec.ofNat 64 a0, BitVec.ofNat 64 a1, BitVec.ofNat 64 a2, BitVec.ofNat 64 a3⟩) ?_).symm
  unfold Q.num
  simp only [BitVec.toNat_ofNat, Nat.mod_eq_of_lt (show a0 < 2 ^ 64 from h0), Nat.mod_eq_of_lt (show a1 < 2 ^ 64 from h1), Nat.mod_eq_of_lt (show a2 < 2 ^ 64 from h2), Nat.mod_eq_of_lt (show a3 < 2 ^ 64 from h3)]
  omega
 rw [z2t, e]
 unfold Q.cells
 simp only [x2u _ h0, x2u _ h1, x2u _ h2, x2u _ h3]
theorem k1d (w : World) : Calls Tryz.prog 268 #[] w fun e w' => e = .returned (.agg (fw Ed.iI)) ∧ Below w.heap.size w w' := by
 rw [y2r Ed.iI 14190309331451158704 3405592160176694392 3120150775007532967 3135389899092516619 (by decide) (by decide) (by decide) (by decide) (by decide)]
 go_enter Tryz.func268, Tryz.ntmps268
 go_wp2_with fail
 exact Own.z1g Tryz.results268 rfl w.heap.size 161 _ (0, 0) _ rfl (heap_alloc_new _ _) Tryz.underlying161 rfl (by kernel_rfl) ⟨rfl, (Below.refl _ _).alloc (Nat.le_refl _) _⟩
theorem q3e (w : World) : Calls Tryz.prog 227 #[] w fun e w' => e = .returned (.agg (fw 1)) ∧ Below w.heap.size w w' := by
 rw [y2r 1 1 0 0 0 (by decide) (by decide) (by decide) (by decide) (by decide)]
 go_enter Tryz.func227, Tryz.ntmps227
 go_wp2_with fail
 exact Own.z1g Tryz.results227 rfl w.heap.size 161 _ (0, 0) _ rfl (heap_alloc_new _ _) Tryz.underlying161 rfl (by kernel_rfl) ⟨rfl, (Below.refl _ _).alloc (Nat.le_refl _) _⟩
theorem z9k {fn : Func} {p q : Tmp} (h : fn.results = #[.cell p 161, .tmp q]) {post : Ending → World → Prop} {a : Act} {w : World} (hd : a.defers = []) (g : Nat) (v : Ed.F) (b : Bool) (hp : a.tmps.getD p undef = .pointer (some ⟨g, 0, none⟩)) (hq : a.tmps.getD q undef = .bool b) (hg : WAt w g v) (hpost : post (.returned (.tuple #[.agg (fw v), .bool b])) w) :
  bodyPost Tryz.prog fn post .ret a w := by
 refine bodyPost_ret (v := .tuple #[.agg (fw v), .bool b]) ?_ hd hpost
 have hl := run_loadVar_row (P := Tryz.prog) w g 161 161 (fw v) (0, 0) _ hg Tryz.underlying161 rfl (by rw [z0w]; kernel_rfl)
 have hp' : a.tmps[p]?.getD undef = .pointer (some ⟨g, 0, none⟩) := by simpa using hp
 have hq' : a.tmps[q]?.getD undef = .bool b := by simpa using hq
 simp [results, h, hp', hq', asAddr, hl]
attribute [local go_sem] j2u
set_option maxHeartbeats 400000 in
theorem k6i (u v : Ed.F) (w : World) :
  Calls Tryz.prog 225 #[.agg (fw u), .agg (fw v)] w fun e w' => e = .returned (.tuple #[.agg (fw (Ed.z9w u v).1), .bool (Ed.z9w u v).2]) ∧ Below w.heap.size w w' := by
 obtain ⟨r, hr⟩ : ∃ r, r = Ed.z9v u v := ⟨_, rfl⟩
 obtain ⟨s, hs⟩ : ∃ s, s = Ed.z2r (u * (v * v * v * (v * v * v) * v)) Ed.e8 := ⟨_, rfl⟩
 have hrs : Hid (u * (v * v * v) * s = r) := by rw [hr, hs]; rfl
 have hpow : Hid (∀ w, Calls Tryz.prog 240 #[.agg (fw (u * (v * v * v * (v * v * v) * v)))] w fun e w' => e = .returned (.agg (fw s)) ∧ Below w.heap.size w w') := by rw [hs]; exact x8l _
 have hF : Hid (Ed.z9w u v = Ed.y1l u v r) := by rw [hr]; rfl
 rw [hF.out]
 clear hr hs
 go_enter Tryz.func225, Tryz.ntmps225
 go_wp2_with fail
 refine Qt.y2b 4 (by kernel_rfl) (by kernel_rfl) _ rfl 161 rfl z0l (by kernel_rfl) ?_
 refine z0m rfl _ rfl (w.heap.size + 1) (v) rfl (k2t w u v) ?_
 refine Qt.z0e rfl 224 #[.agg (fw (v))] _ (fun _ => by kernel_rfl) (fun w' _ => z3g (v) w') ?_
 refine z0m rfl _ rfl (w.heap.size + 1) (v) rfl (k2t w u v) ?_
 refine Qt.z0e rfl 179 #[.agg (fw (v * v)), .agg (fw (v))] _ (fun _ => by kernel_rfl) (fun w' _ => z3x (v * v) (v) w') ?_
 simp only [zD]
 refine Qt.z1a ?_
 intro b3 w1 hw1 hle hb
 refine z2v rfl rfl b3 (v * v * v) rfl rfl hw1 hle hb ?_
 intro w2 hW hb2
 have HB : Hid (Below (W3 w u v).heap.size (W3 w u v) w2) := hb2
 have HU : Hid (WAt w2 w.heap.size u) := (k8g w u v).below HB.out (k8g w u v).lt
 have HV : Hid (WAt w2 (w.heap.size + 1) v) := (k2t w u v).below HB.out (k2t w u v).lt
 have HR : Hid (WAt w2 (w.heap.size + 1 + 1) 0) := (k7q w u v).below HB.out (k7q w u v).lt
 have H3 : Hid (WAt w2 b3 (v * v * v)) := hW
 have HT : Hid (Below w.heap.size w w2) := (k8h w u v).trans (HB.out.mono (k8h w u v).size)
 clear hW hb2 hb hle HB hw1
 simp only [zD]
 go_wp2_with fail
 refine Qt.y2b 4 (by kernel_rfl) (by kernel_rfl) _ rfl 161 rfl z0l (by kernel_rfl) ?_
 refine z0m rfl _ rfl (b3) (v * v * v) rfl H3.out ?_
 refine Qt.z0e rfl 224 #[.agg (fw (v * v * v))] _ (fun _ => by kernel_rfl) (fun w' _ => z3g (v * v * v) w') ?_
 refine z0m rfl _ rfl (w.heap.size + 1) (v) rfl HV.out ?_
 refine Qt.z0e rfl 179 #[.agg (fw (v * v * v * (v * v * v))), .agg (fw (v))] _ (fun _ => by kernel_rfl) (fun w' _ => z3x (v * v * v * (v * v * v)) (v) w') ?_
 simp only [zD]
 refine Qt.z1a ?_
 intro b7 w3 hw1 hle hb
 refine z2v rfl rfl b7 (v * v * v * (v * v * v) * v) rfl rfl hw1 hle hb ?_
 intro w4 hW hb2
 have HB : Hid (Below w2.heap.size w2 w4) := hb2
 have HU4 : Hid (WAt w4 w.heap.size u) := HU.out.below HB.out HU.out.lt
 have HV4 : Hid (WAt w4 (w.heap.size + 1) v) := HV.out.below HB.out HV.out.lt
 have HR4 : Hid (WAt w4 (w.heap.size + 1 + 1) 0) := HR.out.below HB.out HR.out.lt
 have H34 : Hid (WAt w4 b3 (v * v * v)) := H3.out.below HB.out H3.out.lt
 have H7 : Hid (WAt w4 b7 (v * v * v * (v * v * v) * v)) := hW
 have HT4 : Hid (Below w.heap.size w w4) := HT.out.trans (HB.out.mono HT.out.size)
 clear hW hb2 hb hle HB hw1 HU HV HR H3 HT
 simp only [zD]
 go_wp2_with fail
 refine Qt.y2b 8 (by kernel_rfl) (by kernel_rfl) _ rfl 161 rfl z0l (by kernel_rfl) ?_
 refine z0m rfl _ rfl (w.heap.size) (u) rfl HU4.out ?_
 refine z0m rfl _ rfl (b3) (v * v * v) rfl H34.out ?_
 refine Qt.z0e rfl 179 #[.agg (fw (u)), .agg (fw (v * v * v))] _ (fun _ => by kernel_rfl) (fun w' _ => z3x (u) (v * v * v) w') ?_
 simp only [zD]
 refine z0m rfl _ rfl (w.heap.size) (u) rfl HU4.out ?_
 refine z0m rfl _ rfl (b7) (v * v * v * (v * v * v) * v) rfl H7.out ?_
 refine Qt.z0e rfl 179 #[.agg (fw (u)), .agg (fw (v * v * v * (v * v * v) * v))] _ (fun _ => by kernel_rfl) (fun w' _ => z3x (u) (v * v * v * (v * v * v) * v) w') ?_
 simp only [zD]
 refine Qt.z0e rfl 240 #[.agg (fw (u * (v * v * v * (v * v * v) * v)))] (.agg (fw s)) (fun _ => by kernel_rfl) (fun w' _ => hpow.out w') ?_
 refine Qt.z0e rfl 179 #[.agg (fw (u * (v * v * v))), .agg (fw (s))] _ (fun _ => by kernel_rfl) (fun w' _ => z3x (u * (v * v * v)) (s) w') ?_
 rw [hrs.out]
 simp only [zD]
 refine Qt.z1a ?_
 intro br w5 hw1 hle hb
 refine z2v rfl rfl br r rfl rfl hw1 hle hb ?_
 intro w5 hW hb2
 have HB : Hid (Below w4.heap.size w4 w5) := hb2
 have HU : Hid (WAt w5 w.heap.size u) := HU4.out.below HB.out HU4.out.lt
 have HV : Hid (WAt w5 (w.heap.size + 1) v) := HV4.out.below HB.out HV4.out.lt
 have HR : Hid (WAt w5 (w.heap.size + 1 + 1) 0) := HR4.out.below HB.out HR4.out.lt
 have HQ : Hid (WAt w5 br r) := hW
 have HT : Hid (Below w.heap.size w w5) := HT4.out.trans (HB.out.mono HT4.out.size)
 clear hW hb2 hb hle HB hw1 HU4 HV4 HR4 H34 HT4 H7
 simp only [zD]
 go_wp2_with fail
 refine Qt.y2a (by kernel_rfl) (by kernel_rfl) ?_
 refine z0m rfl _ rfl (w.heap.size + 1) (v) rfl HV.out ?_
 refine z0m rfl _ rfl (br) (r) rfl HQ.out ?_
 refine Qt.z0e rfl 224 #[.agg (fw (r))] _ (fun _ => by kernel_rfl) (fun w' _ => z3g (r) w') ?_
 refine Qt.z0e rfl 179 #[.agg (fw (v)), .agg (fw (r * r))] _ (fun _ => by kernel_rfl) (fun w' _ => z3x (v) (r * r) w') ?_
 simp only [zD]
 refine Qt.z1a ?_
 intro w6 hb1
 have HB : Hid (Below w5.heap.size w5 w6) := hb1
 have HU6 : Hid (WAt w6 w.heap.size u) := HU.out.below HB.out HU.out.lt
 have HV6 : Hid (WAt w6 (w.heap.size + 1) v) := HV.out.below HB.out HV.out.lt
 have HR6 : Hid (WAt w6 (w.heap.size + 1 + 1) 0) := HR.out.below HB.out HR.out.lt
 have HQ6 : Hid (WAt w6 br r) := HQ.out.below HB.out HQ.out.lt
 have HT6 : Hid (Below w.heap.size w w6) := HT.out.trans (HB.out.mono HT.out.size)
 clear hb1 HB HU HV HR HQ HT
 by_cases h1 : v * (r * r) = u
 ·have e1 : Hid (Ed.y1l u v r = (r, true)) := if_pos h1
  have d1 := decide_eq_true h1
  have H1 : Hid _ := h1
  clear h1
  go_wp2_with (first | refine z0y rfl _ rfl w.heap.size u rfl HU6.out ?_ | refine z0y rfl _ rfl br r rfl HQ6.out ?_ | refine z2h rfl _ _ rfl (w.heap.size + 1 + 1) r 0 rfl rfl HR6.out ?_)
  exact z9k Tryz.results225 rfl (w.heap.size + 1 + 1) r true rfl rfl (HR6.out.setRow _) ⟨by rw [e1.out], HT6.out.trans ((z0a _ _ _).mono (by omega))⟩
 ·have d1 := decide_eq_false h1
  by_cases h2 : v * (r * r) = 0 - u
  ·have e2 : Hid (Ed.y1l u v r = (r * Ed.iI, true)) := (if_neg h1).trans (if_pos h2)
   have d2 := decide_eq_true h2
   have H1 : Hid _ := h1
   have H2 : Hid _ := h2
   clear h1 h2
   go_wp2_with (first | refine z0y rfl _ rfl w.heap.size u rfl HU6.out ?_ | (go_at_call 177; refine (x4f u _).mono ?_; rintro e w7 ⟨rfl, hb7⟩; have HB7 : Hid (Below w6.heap.size w6 w7) := hb7; clear hb7))
   have HQ7 : Hid (WAt w7 br r) := HQ6.out.below HB7.out HQ6.out.lt
   have HR7 : Hid (WAt w7 (w.heap.size + 1 + 1) 0) := HR6.out.below HB7.out HR6.out.lt
   refine Qt.z0q 3 (by kernel_rfl) (by kernel_rfl) ?_
   refine z0m rfl _ rfl (br) (r) rfl HQ7.out ?_
   refine Qt.z0e rfl 268 #[] (.agg (fw Ed.iI)) (fun _ => by kernel_rfl) (fun w' _ => k1d w') ?_
   refine Qt.z0e rfl 179 #[.agg (fw (r)), .agg (fw (Ed.iI))] _ (fun _ => by kernel_rfl) (fun w' _ => z3x (r) (Ed.iI) w') ?_
   simp only [zD]
   refine Qt.z1a ?_
   intro w8 hb8
   have HB8 : Hid (Below w7.heap.size w7 w8) := hb8
   clear hb8
   have HR8 : Hid (WAt w8 (w.heap.size + 1 + 1) 0) := HR7.out.below HB8.out HR7.out.lt
   refine z2h rfl _ _ rfl (w.heap.size + 1 + 1) (r * Ed.iI) 0 rfl rfl HR8.out ?_
   go_wp2_with fail
   exact z9k Tryz.results225 rfl (w.heap.size + 1 + 1) (r * Ed.iI) true rfl rfl (HR8.out.setRow _) ⟨by rw [e2.out], ((HT6.out.trans (HB7.out.mono HT6.out.size)).trans (HB8.out.mono (Nat.le_trans HT6.out.size HB7.out.size))).trans ((z0a _ _ _).mono (by omega))⟩
  ·have e3 : Hid (Ed.y1l u v r = (0, false)) := (if_neg h1).trans (if_neg h2)
   have d2 := decide_eq_false h2
   have H1 : Hid _ := h1
   have H2 : Hid _ := h2
   clear h1 h2
   go_wp2_with (first | refine z0y rfl _ rfl w.heap.size u rfl HU6.out ?_ | (go_at_call 177; refine (x4f u _).mono ?_; rintro e w7 ⟨rfl, hb7⟩; have HB7 : Hid (Below w6.heap.size w6 w7) := hb7; have HR7 : Hid (WAt w7 (w.heap.size + 1 + 1) 0) := HR6.out.below HB7.out HR6.out.lt; clear hb7) | refine y9x rfl _ _ rfl (w.heap.size + 1 + 1) 0 rfl rfl HR7.out ?_)
   exact z9k Tryz.results225 rfl (w.heap.size + 1 + 1) 0 false rfl rfl (HR7.out.setRow _) ⟨by rw [e3.out], (HT6.out.trans (HB7.out.mono HT6.out.size)).trans ((z0a _ _ _).mono (by omega))⟩
end Fw
open Go.RowKit
namespace Cw
open Fw
theorem k6d : ∃ f : Ed.E → Array Value, ∀ e, f e = fw e.x ++ fw e.y ++ fw e.z ++ fw e.t := ⟨_, fun _ => rfl⟩
noncomputable def pw : Ed.E → Array Value := Classical.choose k6d
theorem z8f (e : Ed.E) : pw e = fw e.x ++ fw e.y ++ fw e.z ++ fw e.t := Classical.choose_spec k6d e
theorem z6c (x : Ed.F) : ∃ a b c d : Value, fw x = #[a, b, c, d] ∧ a.oneCell' = true ∧ b.oneCell' = true ∧ c.oneCell' = true ∧ d.oneCell' = true := by
 rw [z2t]
 exact ⟨_, _, _, _, rfl, rfl, rfl, rfl, rfl⟩
theorem z1z (e : Ed.E) : (pw e).size = 16 := by rw [z8f]; simp [z0w]
theorem y7e (e : Ed.E) : (pw e).all (·.oneCell') = true := by
 rw [z8f]
 simp only [Array.all_append, y6j, Bool.and_self]
theorem q0x (x y z t : Ed.F) : Tryz.prog.built 163 [(0, .agg (fw x)), (1, .agg (fw y)), (2, .agg (fw z)), (3, .agg (fw t))] = some (pw ⟨x, y, z, t⟩) := by
 rw [z8f]
 obtain ⟨a0, a1, a2, a3, ha, _⟩ := z6c x
 obtain ⟨b0, b1, b2, b3, hb, _⟩ := z6c y
 obtain ⟨c0, c1, c2, c3, hc, _⟩ := z6c z
 obtain ⟨d0, d1, d2, d3, hd, _⟩ := z6c t
 simp only [ha, hb, hc, hd]
 kernel_rfl
def z4q : Array Value := #[.int .u64 0, .int .u64 0, .int .u64 0, .int .u64 0, .int .u64 0, .int .u64 0, .int .u64 0, .int .u64 0, .int .u64 0, .int .u64 0, .int .u64 0, .int .u64 0, .int .u64 0, .int .u64 0, .int .u64 0, .int .u64 0]
def e0 : Ed.E := ⟨0, 0, 0, 0⟩
theorem y4n : pw e0 = z4q := by rw [z8f]; simp only [e0, y0v]; rfl
def PAt (w : World) (b : Nat) (e : Ed.E) : Prop := w.heap[b]? = some (.cells (pw e) 163 (0, 0))
theorem PAt.lt {w : World} {b : Nat} {e : Ed.E} (h : PAt w b e) : b < w.heap.size := (aL h)
theorem PAt.below {w w' : World} {b : Nat} {e : Ed.E} (h : PAt w b e) {k : Nat} (hb : Below k w w') (hk : b < k) : PAt w' b e := (hb.block b hk).trans h
theorem PAt.zero {w : World} {b : Nat} (h : w.heap[b]? = some (.cells z4q 163 (0, 0))) : PAt w b e0 := by unfold PAt; rw [y4n]; exact h
theorem PAt.setRow {w : World} {b : Nat} {e : Ed.E} (h : PAt w b e) (f : Ed.E) : PAt (w.setRow b (pw f)) b f := setRow_heap _ _ _ _ _ _ h
theorem PAt.range {w : World} {b : Nat} {e : Ed.E} (h : PAt w b e) (off : Nat) (v : Ed.F) (hv : ∀ j, j < 4 → (pw e)[off + j]? = (fw v)[j]?) : w.rangeAt b off (fw v).toList := fun j u hu => by
 have hj : j < 4 := by
  have := (lL hu)
  rw [Array.length_toList, z0w] at this
  exact this
 rw [cell_of_row w b (off + j) _ _ _ h, hv j hj]
 simpa using hu
theorem PAt.x {w : World} {b : Nat} {e : Ed.E} (h : PAt w b e) : w.rangeAt b 0 (fw e.x).toList := h.range 0 e.x fun j hj => by
 rw [z8f, Array.getElem?_append_left (by simp [z0w]; omega), Array.getElem?_append_left (by simp [z0w]; omega), Array.getElem?_append_left (by simp [z0w]; omega)]
 congr 1; omega
theorem PAt.y {w : World} {b : Nat} {e : Ed.E} (h : PAt w b e) : w.rangeAt b 4 (fw e.y).toList := h.range 4 e.y fun j hj => by
 rw [z8f, Array.getElem?_append_left (by simp [z0w]; omega), Array.getElem?_append_left (by simp [z0w]; omega), Array.getElem?_append_right (by simp [z0w])]
 congr 1; simp [z0w]
theorem PAt.z {w : World} {b : Nat} {e : Ed.E} (h : PAt w b e) : w.rangeAt b 8 (fw e.z).toList := h.range 8 e.z fun j hj => by
 rw [z8f, Array.getElem?_append_left (by simp [z0w]; omega), Array.getElem?_append_right (by simp [z0w])]
 congr 1; simp [z0w]
theorem PAt.t {w : World} {b : Nat} {e : Ed.E} (h : PAt w b e) : w.rangeAt b 12 (fw e.t).toList := h.range 12 e.t fun j hj => by
 rw [z8f, Array.getElem?_append_right (by simp [z0w])]
 congr 1; simp [z0w]
theorem z4a {W : World} {K : Act → Prop} {l : List Oper} {o : Oper} {a : Act} (hg : o.guard = none) (x : Operand) (ho : o.op = .load 161 x) (b off : Nat) (v : Ed.F) (hx : a.eval x = .pointer (some ⟨b, off, none⟩)) (hb : b < W.heap.size) (hr : W.rangeAt b off (fw v).toList)
  (h : Qt.Lex Tryz.prog W K l (a.put o.dst (.agg (fw v)))) : Qt.Lex Tryz.prog W K (o :: l) a :=
 Qt.k7m hg 161 x ho b off hx (fw v).toList _ hb hr Tryz.underlying161 rfl (by rw [Array.length_toList, z0w]; kernel_rfl) h
theorem x0e {W : World} {K : Act → Prop} {l : List Oper} {o : Oper} {a : Act} (hg : o.guard = none) (parts : Array (Nat × Operand)) (ho : o.op = .build 163 parts) (e : Ed.E) (hf : (parts.map fun (i, x) => (i, a.eval x)).toList = [(0, .agg (fw e.x)), (1, .agg (fw e.y)), (2, .agg (fw e.z)), (3, .agg (fw e.t))])
  (h : Qt.Lex Tryz.prog W K l (a.put o.dst (.agg (pw e)))) : Qt.Lex Tryz.prog W K (o :: l) a := by
 refine Qt.z0b hg (.agg (pw e)) (fun w' _ => ?_) h
 have hr := run_build (P := Tryz.prog) w' 163 (parts.map fun (i, x) => (i, a.eval x)) (pw e) (by rw [hf]; exact q0x e.x e.y e.z e.t)
 unfold execOp
 simp only [ho, Sem.run_bind, Sem.run_pure, Result.andThen_ok, hr]
theorem z2z {ops : Array Oper} {rest : List Oper} {o : Oper} {a : Act} {w : World} {Q : Exit → Act → World → Prop} (hg : o.guard = none) (x y : Operand) (ho : o.op = .store 163 x y) (b : Nat) (v old : Ed.E) (hx : a.eval x = .pointer (some ⟨b, 0, none⟩)) (hy : a.eval y = .agg (pw v)) (hb : PAt w b old)
  (h : wpList Tryz.prog ops Q rest (a.put o.dst undef) (w.setRow b (pw v))) : wpList Tryz.prog ops Q (o :: rest) a w :=
 wpList_store_row hg 163 x y ho b (pw v) hx hy 163 (pw old) hb (by rw [z1z]; kernel_rfl) ((z1z _).trans (z1z _).symm) (y7e v) h
theorem q5y {ops : Array Oper} {rest : List Oper} {o : Oper} {a : Act} {w : World} {Q : Exit → Act → World → Prop} (hg : o.guard = none) (x : Operand) (ho : o.op = .load 163 x) (b : Nat) (v : Ed.E) (hx : a.eval x = .pointer (some ⟨b, 0, none⟩)) (hb : PAt w b v)
  (h : wpList Tryz.prog ops Q rest (a.put o.dst (.agg (pw v))) w) : wpList Tryz.prog ops Q (o :: rest) a w :=
 wpList_load_row hg 163 x ho b hx 163 (pw v) (0, 0) _ hb Tryz.underlying163 rfl (by rw [z1z]; kernel_rfl) h
theorem k7x {W : World} {K : Act → Prop} {l : List Oper} {o : Oper} {a : Act} (hg : o.guard = none) (x : Operand) (ho : o.op = .load 163 x) (b : Nat) (v : Ed.E) (hx : a.eval x = .pointer (some ⟨b, 0, none⟩)) (hb : PAt W b v)
  (h : Qt.Lex Tryz.prog W K l (a.put o.dst (.agg (pw v)))) : Qt.Lex Tryz.prog W K (o :: l) a :=
 Qt.z7g hg 163 x ho b hx 163 (pw v) (0, 0) _ hb Tryz.underlying163 rfl (by rw [z1z]; kernel_rfl) h
theorem y7m {fn : Func} {p : Tmp} (h : fn.results = #[.cell p 163]) {post : Ending → World → Prop} {a : Act} {w : World} (hd : a.defers = []) (g : Nat) (v : Ed.E) (hp : a.tmps.getD p undef = .pointer (some ⟨g, 0, none⟩)) (hg : PAt w g v) (hpost : post (.returned (.agg (pw v))) w) :
  bodyPost Tryz.prog fn post .ret a w :=
 Own.z1g h hd g 163 (pw v) (0, 0) _ hp hg Tryz.underlying163 rfl (by rw [z1z]; kernel_rfl) hpost
noncomputable abbrev V2 (w : World) (e : Ed.E) : World := (w.alloc (.cells (pw e) 163)).alloc (.cells z4q 163)
theorem j0q (w : World) (e : Ed.E) : PAt (V2 w e) w.heap.size e := PAt.below (z0d w _ _ rfl) ((Below.refl (w.heap.size + 1) _).alloc (by simp) _) (by omega)
theorem k8f (w : World) (e : Ed.E) : PAt (V2 w e) (w.heap.size + 1) e0 := .zero (z0d _ _ _ (by simp))
theorem j0r (w : World) (e : Ed.E) : Below w.heap.size w (V2 w e) := ((Below.refl _ _).alloc (Nat.le_refl _) _).alloc (by simp) _
noncomputable abbrev U3 (w : World) (x y : Ed.F) : World := ((w.alloc (.cells (fw x) 161)).alloc (.cells (fw y) 161)).alloc (.cells z4q 163)
theorem j0o (w : World) (x y : Ed.F) : WAt (U3 w x y) w.heap.size x := WAt.below (z0d w _ _ rfl) (((Below.refl (w.heap.size + 1) _).alloc (by simp) _).alloc (by simp) _) (by omega)
theorem j0p (w : World) (x y : Ed.F) : WAt (U3 w x y) (w.heap.size + 1) y := WAt.below (z0d _ _ _ (by simp)) ((Below.refl (w.heap.size + 2) _).alloc (by simp) _) (by omega)
theorem j0n (w : World) (x y : Ed.F) : PAt (U3 w x y) (w.heap.size + 1 + 1) e0 := .zero (z0d _ _ _ (by simp))
theorem j2a (w : World) (x y : Ed.F) : Below w.heap.size w (U3 w x y) := (((Below.refl _ _).alloc (Nat.le_refl _) _).alloc (by simp) _).alloc (by simp; omega) _
set_option maxHeartbeats 400000 in
theorem y3j (x y : Ed.F) (w : World) :
  Calls Tryz.prog 156 #[.agg (fw x), .agg (fw y)] w fun e w' => e = .returned (.agg (pw (Ed.aff x y))) ∧ Below w.heap.size w w' := by
 go_enter Tryz.func156, Tryz.ntmps156
 go_wp2_with fail
 refine Qt.z0q 7 (by kernel_rfl) (by kernel_rfl) ?_
 refine z0m rfl _ rfl (w.heap.size) (x) rfl (j0o w x y) ?_
 refine z0m rfl _ rfl (w.heap.size + 1) (y) rfl (j0p w x y) ?_
 refine Qt.z0e rfl 227 #[] (.agg (fw 1)) (fun _ => by kernel_rfl) (fun w' _ => q3e w') ?_
 refine z0m rfl _ rfl (w.heap.size) (x) rfl (j0o w x y) ?_
 refine z0m rfl _ rfl (w.heap.size + 1) (y) rfl (j0p w x y) ?_
 refine Qt.z0e rfl 179 #[.agg (fw (x)), .agg (fw (y))] _ (fun _ => by kernel_rfl) (fun w' _ => z3x (x) (y) w') ?_
 simp only [zD]
 refine x0e rfl _ rfl (Ed.aff x y) (by kernel_rfl) ?_
 simp only [zD]
 refine Qt.z1a ?_
 intro w1 hb
 have HB : Hid (Below (U3 w x y).heap.size (U3 w x y) w1) := hb
 clear hb
 have HR : Hid (PAt w1 (w.heap.size + 1 + 1) e0) := (j0n w x y).below HB.out (j0n w x y).lt
 refine z2z rfl _ _ rfl (w.heap.size + 1 + 1) (Ed.aff x y) e0 rfl rfl HR.out ?_
 go_wp2_with fail
 exact y7m Tryz.results156 rfl (w.heap.size + 1 + 1) (Ed.aff x y) rfl (HR.out.setRow _) ⟨rfl, z0r (j2a w x y) HB.out _ (by omega) _⟩
set_option maxHeartbeats 400000 in
theorem k9p (p : Ed.E) (w : World) :
  Calls Tryz.prog 112 #[.agg (pw p)] w fun e w' => e = .returned (.agg (pw (Ed.q5m p))) ∧ Below w.heap.size w w' := by
 have HA := j0q w p
 go_enter Tryz.func112, Tryz.ntmps112
 go_wp2_with fail
 refine Qt.z0q 11 (by kernel_rfl) (by kernel_rfl) ?_
 refine Qt.z0b rfl (.pointer (some ⟨w.heap.size, 0, none⟩)) (fun _ _ => by kernel_rfl) ?_
 refine z4a rfl _ rfl w.heap.size 0 p.x rfl HA.lt HA.x ?_
 refine Qt.z0e rfl 177 #[.agg (fw (p.x))] _ (fun _ => by kernel_rfl) (fun w' _ => x4f (p.x) w') ?_
 refine Qt.z0b rfl (.pointer (some ⟨w.heap.size, 4, none⟩)) (fun _ _ => by kernel_rfl) ?_
 refine z4a rfl _ rfl w.heap.size 4 p.y rfl HA.lt HA.y ?_
 simp only [zD]
 refine Qt.z0b rfl (.pointer (some ⟨w.heap.size, 8, none⟩)) (fun _ _ => by kernel_rfl) ?_
 refine z4a rfl _ rfl w.heap.size 8 p.z rfl HA.lt HA.z ?_
 refine Qt.z0b rfl (.pointer (some ⟨w.heap.size, 12, none⟩)) (fun _ _ => by kernel_rfl) ?_
 refine z4a rfl _ rfl w.heap.size 12 p.t rfl HA.lt HA.t ?_
 refine Qt.z0e rfl 177 #[.agg (fw (p.t))] _ (fun _ => by kernel_rfl) (fun w' _ => x4f (p.t) w') ?_
 simp only [zD]
 refine x0e rfl _ rfl (Ed.q5m p) (by kernel_rfl) ?_
 simp only [zD]
 refine Qt.z1a ?_
 intro w1 hb
 have HB : Hid (Below (V2 w p).heap.size (V2 w p) w1) := hb
 clear hb
 have HR : Hid (PAt w1 (w.heap.size + 1) e0) := (k8f w p).below HB.out (k8f w p).lt
 refine z2z rfl _ _ rfl (w.heap.size + 1) (Ed.q5m p) e0 rfl rfl HR.out ?_
 go_wp2_with fail
 exact y7m Tryz.results112 rfl (w.heap.size + 1) (Ed.q5m p) rfl (HR.out.setRow _) ⟨rfl, z0r (j0r w p) HB.out _ (by omega) _⟩
end Cw
end Go.Proofs.YtbojijefenfbgaaGreatDoor
