/- Walks of the program's wide numbers: mulAdd, Mul, Join. -/
/- What the program's wide product is worth; bits of a number of eight words. -/
import Derived.Test.YtbojijefenfbgaaGreatDoorTkQStore
namespace Go.Proofs.YtbojijefenfbgaaGreatDoor
open Go.RowKit
namespace Ww
open Fw Bt
attribute [local go_sem] UV.u_add UV.u_mul UV.u_sub UV.u_xor UV.u_and UV.u_or UV.u_shr UV.u_shl UV.u_not UV.u_notm UV.u_wrap_un run_Add64 run_Sub64 run_Add64_xy0
def maLo (x y p q : BitVec 64) : BitVec 64 := x * y + p + bv false + q + bv false
def maHi (x y p q : BitVec 64) : BitVec 64 := mulH x y + bv (carry (x * y) p false) + bv (carry (x * y + p + bv false) q false)
theorem ma_val (x y p q : BitVec 64) : (maLo x y p q).toNat + 18446744073709551616 * (maHi x y p q).toNat = x.toNat * y.toNat + p.toNat + q.toNat := by
  have h0 := mul_val x y
  have h1 := add_val (x * y) p false
  have h2 := add_val (x * y + p + bv false) q false
  have b1 := bv_le (carry (x * y) p false)
  have b2 := bv_le (carry (x * y + p + bv false) q false)
  rw [show (bv false).toNat = 0 from rfl] at h1 h2
  have hx := x.isLt
  have hy := y.isLt
  have hp := p.isLt
  have hq := q.isLt
  have hlo := (maLo x y p q).isLt
  have hm : x.toNat * y.toNat ≤ 18446744073709551615 * 18446744073709551615 := Nat.mul_le_mul (by omega) (by omega)
  have hh : (maHi x y p q).toNat = ((mulH x y).toNat + (bv (carry (x * y) p false)).toNat + (bv (carry (x * y + p + bv false) q false)).toNat) % 18446744073709551616 := by
    unfold maHi
    rw [BitVec.toNat_add, BitVec.toNat_add]
    omega
  have hl : (maLo x y p q).toNat = (x * y + p + bv false + q + bv false).toNat := rfl
  rw [hh, hl]
  generalize (x * y + p + bv false + q + bv false).toNat = lo at *
  generalize (x * y + p + bv false).toNat = m1 at *
  generalize (bv (carry (x * y) p false)).toNat = c1 at *
  generalize (bv (carry (x * y + p + bv false) q false)).toNat = c2 at *
  generalize (x * y).toNat = l0 at *
  generalize (mulH x y).toNat = hi at *
  generalize x.toNat * y.toNat = xy at *
  rw [Nat.mod_eq_of_lt (by omega)]
  omega
set_option maxHeartbeats 400000 in
theorem mulAdd_f (x y p q : BitVec 64) (w : World) : Calls Tryz.prog 250 #[.int .u64 (un x), .int .u64 (un y), .int .u64 (un p), .int .u64 (un q)] w fun e w' => e = .returned (.tuple #[.int .u64 (un (maHi x y p q)), .int .u64 (un (maLo x y p q))]) ∧ w' = w := by
  go_enter Tryz.func250, Tryz.ntmps250
  go_wp2_with (go_at_call 274; refine (mul64_any _ _ _).mono ?_; rintro e w' ⟨rfl, rfl⟩)
  refine bodyPost_ret (v := .tuple #[.int .u64 (un (maHi x y p q)), .int .u64 (un (maLo x y p q))]) (by simp [results, Tryz.results250, go_sem, maHi, maLo]) rfl ⟨rfl, rfl⟩
theorem mulAdd_b (x y p q : BitVec 64) (w : World) : Calls Tryz.prog 250 #[.int .u64 (un x), .int .u64 (un y), .int .u64 (un p), .int .u64 (un q)] w fun e w' => e = .returned (.tuple #[.int .u64 (un (maHi x y p q)), .int .u64 (un (maLo x y p q))]) ∧ Below w.heap.size w w' :=
  (mulAdd_f x y p q w).mono fun e w' ⟨he, hw⟩ => ⟨he, by rw [hw]; exact Below.refl _ _⟩
def updW (W : Nat → BitVec 64) (k : Nat) (v : BitVec 64) : Nat → BitVec 64 := fun j => if j = k then v else W j
/-- One row of a product: behind j words of b. -/
def mj (x : BitVec 64) (b : Q) (i : Nat) (W : Nat → BitVec 64) : Nat → (Nat → BitVec 64) × BitVec 64
  | 0 => (W, 0#64)
  | j + 1 => (updW (mj x b i W j).1 (i + j) (maLo x (Cw.qw b j) ((mj x b i W j).1 (i + j)) (mj x b i W j).2), maHi x (Cw.qw b j) ((mj x b i W j).1 (i + j)) (mj x b i W j).2)
/-- A product, behind i words of a. -/
def mi (a b : Q) : Nat → Nat → BitVec 64
  | 0 => fun _ => 0#64
  | i + 1 => updW (mj (Cw.qw a i) b i (mi a b i) 4).1 (i + 4) (mj (Cw.qw a i) b i (mi a b i) 4).2
def dF (W : Nat → BitVec 64) (k : Nat) : Value := .int .u64 (un (W k))
def DAt (w : World) (b : Nat) (W : Nat → BitVec 64) : Prop := w.heap[b]? = some (.cells (Own.mkRow 8 (dF W)) 265 (0, 0))
theorem DAt.lt {w : World} {b : Nat} {W : Nat → BitVec 64} (h : DAt w b W) : b < w.heap.size := (Array.getElem?_eq_some_iff.1 h).1
theorem DAt.below {w w' : World} {b : Nat} {W : Nat → BitVec 64} (h : DAt w b W) {k : Nat} (hb : Below k w w') (hk : b < k) : DAt w' b W := (hb.block b hk).trans h
theorem DAt.cell {w : World} {b : Nat} {W : Nat → BitVec 64} (h : DAt w b W) (k : Nat) (hk : k < 8) : w.cell? ⟨b, k, none⟩ = some (.int .u64 (un (W k))) := Own.row_cell h k hk
theorem DAt.frozen {w : World} {b : Nat} {W : Nat → BitVec 64} (h : DAt w b W) (k : Nat) : w.frozen? ⟨b, k, none⟩ = false := Own.row_frozen h k
theorem DAt.set {w : World} {b : Nat} {W : Nat → BitVec 64} (h : DAt w b W) (k : Nat) (v : BitVec 64) : DAt (w.setCell ⟨b, k, none⟩ (.int .u64 (un v))) b (updW W k v) := by
  have h1 := Own.row_store h k (.int .u64 (un v))
  unfold DAt
  rw [h1]
  refine congrArg (fun c => some (Obj.cells c 265 (0, 0))) (Own.mkRow_congr fun j _ => ?_)
  unfold dF updW
  by_cases hj : j = k
  · rw [if_pos hj, if_pos hj]
  · rw [if_neg hj, if_neg hj]
theorem NAt.setOther {w : World} {b c o : Nat} {q : Q} (h : NAt w b q) (hne : b ≠ c) (v : Value) : NAt (w.setCell ⟨c, o, none⟩ v) b q := by
  show _ = _
  rw [Below.heap_setCell _ _ _ _ (by exact hne)]
  exact h
theorem DAt.setOther {w : World} {b c o : Nat} {W : Nat → BitVec 64} (h : DAt w b W) (hne : b ≠ c) (v : Value) : DAt (w.setCell ⟨c, o, none⟩ v) b W := by
  show _ = _
  rw [Below.heap_setCell _ _ _ _ (by exact hne)]
  exact h
def dZero : Array Value := #[.int .u64 0, .int .u64 0, .int .u64 0, .int .u64 0, .int .u64 0, .int .u64 0, .int .u64 0, .int .u64 0]
theorem dZero_eq : dZero = Own.mkRow 8 (dF (fun _ => 0#64)) := rfl
abbrev G4 (w : World) (a b : Q) : World := (((w.alloc (.cells a.cells 184)).alloc (.cells b.cells 184)).alloc (.cells dZero 265)).alloc (.cells dZero 265)
theorem G4_a (w : World) (a b : Q) : NAt (G4 w a b) w.heap.size a := NAt.below (alloc_at w _ _ rfl) ((((Below.refl (w.heap.size + 1) _).alloc (by simp) _).alloc (by simp) _).alloc (by simp) _) (by omega)
theorem G4_c (w : World) (a b : Q) : NAt (G4 w a b) (w.heap.size + 1) b := NAt.below (alloc_at _ _ _ (by simp)) (((Below.refl (w.heap.size + 2) _).alloc (by simp) _).alloc (by simp) _) (by omega)
theorem G4_r (w : World) (a b : Q) : DAt (G4 w a b) (w.heap.size + 1 + 1) (fun _ => 0#64) := DAt.below (alloc_at _ _ _ (by simp)) ((Below.refl (w.heap.size + 3) _).alloc (by simp) _) (by omega)
theorem G4_o (w : World) (a b : Q) : DAt (G4 w a b) (w.heap.size + 1 + 1 + 1) (fun _ => 0#64) := alloc_at _ _ _ (by simp)
theorem G4_b (w : World) (a b : Q) : Below w.heap.size w (G4 w a b) := ((((Below.refl _ _).alloc (Nat.le_refl _) _).alloc (by simp) _).alloc (by simp; omega) _).alloc (by simp; omega) _
theorem load_d {ops : Array Oper} {rest : List Oper} {o : Oper} {a : Act} {w : World} {Q : Exit → Act → World → Prop} (hg : o.guard = none) (x : Operand) (ho : o.op = .load 265 x) (b : Nat) (W : Nat → BitVec 64) (hx : a.eval x = .pointer (some ⟨b, 0, none⟩)) (hb : DAt w b W)
    (h : wpList Tryz.prog ops Q rest (a.put o.dst (.agg (Own.mkRow 8 (dF W)))) w) : wpList Tryz.prog ops Q (o :: rest) a w :=
  wpList_load_row hg 265 x ho b hx 265 (Own.mkRow 8 (dF W)) (0, 0) _ hb Tryz.underlying265 rfl (by rw [Own.mkRow_size]; kernel_rfl) h
theorem store_d {ops : Array Oper} {rest : List Oper} {o : Oper} {a : Act} {w : World} {Q : Exit → Act → World → Prop} (hg : o.guard = none) (x y : Operand) (ho : o.op = .store 265 x y) (b : Nat) (W old : Nat → BitVec 64) (hx : a.eval x = .pointer (some ⟨b, 0, none⟩)) (hy : a.eval y = .agg (Own.mkRow 8 (dF W))) (hb : DAt w b old)
    (h : wpList Tryz.prog ops Q rest (a.put o.dst undef) (w.setRow b (Own.mkRow 8 (dF W)))) : wpList Tryz.prog ops Q (o :: rest) a w :=
  wpList_store_row hg 265 x y ho b (Own.mkRow 8 (dF W)) hx hy 265 (Own.mkRow 8 (dF old)) hb (by rw [Own.mkRow_size]; kernel_rfl) (by rw [Own.mkRow_size, Own.mkRow_size]) (Own.all_one fun _ _ => rfl) h
theorem DAt.setRow {w : World} {b : Nat} {W : Nat → BitVec 64} (h : DAt w b W) (V : Nat → BitVec 64) : DAt (w.setRow b (Own.mkRow 8 (dF V))) b V := setRow_heap _ _ _ _ _ _ h
theorem ret_d {fn : Func} {p : Tmp} (h : fn.results = #[.cell p 265]) {post : Ending → World → Prop} {a : Act} {w : World} (hd : a.defers = []) (g : Nat) (W : Nat → BitVec 64) (hp : a.tmps.getD p undef = .pointer (some ⟨g, 0, none⟩)) (hg : DAt w g W) (hpost : post (.returned (.agg (Own.mkRow 8 (dF W)))) w) :
    bodyPost Tryz.prog fn post .ret a w :=
  Own.ret_row h hd g 265 (Own.mkRow 8 (dF W)) (0, 0) _ hp hg Tryz.underlying265 rfl (by rw [Own.mkRow_size]; kernel_rfl) hpost
set_option maxRecDepth 100000 in
set_option maxHeartbeats 1000000 in
theorem wmul_f (a b : Q) (w : World) : Calls Tryz.prog 201 #[.agg a.cells, .agg b.cells] w fun e w' => e = .returned (.agg (Own.mkRow 8 (dF (mi a b 4)))) ∧ Below w.heap.size w w' := by
  have HA : Hid (NAt (G4 w a b) w.heap.size a) := G4_a w a b
  have HC : Hid (NAt (G4 w a b) (w.heap.size + 1) b) := G4_c w a b
  have HR : Hid (DAt (G4 w a b) (w.heap.size + 1 + 1) (fun _ => 0#64)) := G4_r w a b
  have HO : Hid (DAt (G4 w a b) (w.heap.size + 1 + 1 + 1) (fun _ => 0#64)) := G4_o w a b
  have HB : Hid (Below w.heap.size w (G4 w a b)) := G4_b w a b
  go_enter Tryz.func201, Tryz.ntmps201
  go_wp2_with fail
  go_loopw [9] (fun iv wq => ∃ i : Nat, i ≤ 4 ∧ iv = .int .i64 (i : Int) ∧ DAt wq (w.heap.size + 1 + 1 + 1) (mi a b i) ∧ DAt wq (w.heap.size + 1 + 1) (fun _ => 0#64) ∧ NAt wq w.heap.size a ∧ NAt wq (w.heap.size + 1) b ∧ Below w.heap.size w wq) (fun iv _ => 4 - (intOf iv).toNat)
  case atStart => exact ⟨0, by omega, rfl, HO.out, HR.out, HA.out, HC.out, HB.out⟩
  case round =>
    clear HA HC HR HO HB
    rename World => wa
    obtain ⟨i, hi, rfl, ho, hr, ha, hc, hb⟩ := hrel
    have HO : Hid (DAt wa (w.heap.size + 1 + 1 + 1) (mi a b i)) := ho
    have HR : Hid (DAt wa (w.heap.size + 1 + 1) (fun _ => 0#64)) := hr
    have HA : Hid (NAt wa w.heap.size a) := ha
    have HC : Hid (NAt wa (w.heap.size + 1) b) := hc
    have HB : Hid (Below w.heap.size w wa) := hb
    clear ho hr ha hc hb
    by_cases hi4 : i < 4
    · have hd4 : decide ((i : Int) < 4) = true := decide_eq_true (by omega)
      go_wp2_with fail
      clear hd4
      go_loopw [12, 7] (fun jv cv wq => ∃ j : Nat, j ≤ 4 ∧ jv = .int .i64 (j : Int) ∧ cv = .int .u64 (un (mj (Cw.qw a i) b i (mi a b i) j).2) ∧ DAt wq (w.heap.size + 1 + 1 + 1) (mj (Cw.qw a i) b i (mi a b i) j).1 ∧ DAt wq (w.heap.size + 1 + 1) (fun _ => 0#64) ∧ NAt wq w.heap.size a ∧ NAt wq (w.heap.size + 1) b ∧ Below w.heap.size w wq) (fun jv _ _ => 4 - (intOf jv).toNat)
      case atStart => exact ⟨0, by omega, rfl, rfl, HO.out, HR.out, HA.out, HC.out, HB.out⟩
      case round =>
        clear HO HR HA HC HB
        rename World => wc
        obtain ⟨j, hj, rfl, rfl, ho, hr, ha, hc, hb⟩ := hrel
        have HO : Hid (DAt wc (w.heap.size + 1 + 1 + 1) (mj (Cw.qw a i) b i (mi a b i) j).1) := ho
        have HR : Hid (DAt wc (w.heap.size + 1 + 1) (fun _ => 0#64)) := hr
        have HA : Hid (NAt wc w.heap.size a) := ha
        have HC : Hid (NAt wc (w.heap.size + 1) b) := hc
        have HB : Hid (Below w.heap.size w wc) := hb
        clear ho hr ha hc hb
        by_cases hj4 : j < 4
        · go_wp2_with fail
          refine Qt.wp_tail 21 (by kernel_rfl) (by kernel_rfl) ?_
          refine Qt.y_val rfl (.int .i64 (i : Int)) (fun _ _ => by kernel_rfl) ?_
          refine Qt.y_val rfl (.int .i64 (j : Int)) (fun _ _ => by kernel_rfl) ?_
          simp only [Act.put, List.setIfInBounds_toArray, List.set_cons_zero, List.set_cons_succ]
          refine Qt.y_val rfl (.int .i64 ((i + j : Nat) : Int)) (fun w' _ => by go_simp; rw [IntKind.wrap_i64]; omega) ?_
          refine Qt.y_val rfl (.int .i64 (i : Int)) (fun _ _ => by kernel_rfl) ?_
          simp only [Act.put, List.setIfInBounds_toArray, List.set_cons_zero, List.set_cons_succ]
          refine Qt.y_idx rfl 184 _ _ rfl 159 4 1 Tryz.underlying184 (by kernel_rfl) (by kernel_rfl) (w.heap.size) 0 (i) .i64 rfl rfl (by omega) ?_
          rw [show 0 + (i) * 1 = i by omega]
          refine Cw.y_u64 rfl _ rfl w.heap.size i (.int .u64 (un (Cw.qw a i))) rfl HA.out.lt (q_cell HA.out i (by omega)) ?_
          refine Qt.y_val rfl (.int .i64 (j : Int)) (fun _ _ => by kernel_rfl) ?_
          simp only [Act.put, List.setIfInBounds_toArray, List.set_cons_zero, List.set_cons_succ]
          refine Qt.y_idx rfl 184 _ _ rfl 159 4 1 Tryz.underlying184 (by kernel_rfl) (by kernel_rfl) (w.heap.size + 1) 0 (j) .i64 rfl rfl (by omega) ?_
          rw [show 0 + (j) * 1 = j by omega]
          refine Cw.y_u64 rfl _ rfl (w.heap.size + 1) j (.int .u64 (un (Cw.qw b j))) rfl HC.out.lt (q_cell HC.out j (by omega)) ?_
          refine Qt.y_val rfl (.int .i64 (i : Int)) (fun _ _ => by kernel_rfl) ?_
          refine Qt.y_val rfl (.int .i64 (j : Int)) (fun _ _ => by kernel_rfl) ?_
          simp only [Act.put, List.setIfInBounds_toArray, List.set_cons_zero, List.set_cons_succ]
          refine Qt.y_val rfl (.int .i64 ((i + j : Nat) : Int)) (fun w' _ => by go_simp; rw [IntKind.wrap_i64]; omega) ?_
          refine Qt.y_idx rfl 265 _ _ rfl 159 8 1 Tryz.underlying265 (by kernel_rfl) (by kernel_rfl) (w.heap.size + 1 + 1 + 1) 0 (i + j) .i64 rfl rfl (by omega) ?_
          rw [show 0 + (i + j) * 1 = i + j by omega]
          refine Cw.y_u64 rfl _ rfl (w.heap.size + 1 + 1 + 1) (i + j) (.int .u64 (un ((mj (Cw.qw a i) b i (mi a b i) j).1 (i + j)))) rfl HO.out.lt (HO.out.cell (i + j) (by omega)) ?_
          simp only [Act.put, List.setIfInBounds_toArray, List.set_cons_zero, List.set_cons_succ]
          refine Qt.y_val rfl (.int .u64 (un (mj (Cw.qw a i) b i (mi a b i) j).2)) (fun _ _ => by kernel_rfl) ?_
          simp only [Act.put, List.setIfInBounds_toArray, List.set_cons_zero, List.set_cons_succ]
          refine Qt.y_call rfl 250 #[.int .u64 (un (Cw.qw a i)), .int .u64 (un (Cw.qw b j)), .int .u64 (un ((mj (Cw.qw a i) b i (mi a b i) j).1 (i + j))), .int .u64 (un (mj (Cw.qw a i) b i (mi a b i) j).2)] (.tuple #[.int .u64 (un (mj (Cw.qw a i) b i (mi a b i) (j + 1)).2), .int .u64 (un (maLo (Cw.qw a i) (Cw.qw b j) ((mj (Cw.qw a i) b i (mi a b i) j).1 (i + j)) (mj (Cw.qw a i) b i (mi a b i) j).2))]) (fun _ => by kernel_rfl) (fun w' _ => mulAdd_b _ _ _ _ w') ?_
          simp only [Act.put, List.setIfInBounds_toArray, List.set_cons_zero, List.set_cons_succ]
          refine Qt.y_val rfl (.tuple #[.int .u64 (un (mj (Cw.qw a i) b i (mi a b i) (j + 1)).2), .int .u64 (un (maLo (Cw.qw a i) (Cw.qw b j) ((mj (Cw.qw a i) b i (mi a b i) j).1 (i + j)) (mj (Cw.qw a i) b i (mi a b i) j).2))]) (fun _ _ => by kernel_rfl) ?_
          refine Qt.y_val rfl (.int .u64 (un (mj (Cw.qw a i) b i (mi a b i) (j + 1)).2)) (fun _ _ => by kernel_rfl) ?_
          refine Qt.y_val rfl (.int .u64 (un (maLo (Cw.qw a i) (Cw.qw b j) ((mj (Cw.qw a i) b i (mi a b i) j).1 (i + j)) (mj (Cw.qw a i) b i (mi a b i) j).2))) (fun _ _ => by kernel_rfl) ?_
          simp only [Act.put, List.setIfInBounds_toArray, List.set_cons_zero, List.set_cons_succ]
          refine Qt.y_val rfl (.int .u64 (un (mj (Cw.qw a i) b i (mi a b i) (j + 1)).2)) (fun _ _ => by kernel_rfl) ?_
          simp only [Act.put, List.setIfInBounds_toArray, List.set_cons_zero, List.set_cons_succ]
          refine Qt.y_idx rfl 265 _ _ rfl 159 8 1 Tryz.underlying265 (by kernel_rfl) (by kernel_rfl) (w.heap.size + 1 + 1 + 1) 0 (i + j) .i64 rfl rfl (by omega) ?_
          rw [show 0 + (i + j) * 1 = i + j by omega]
          simp only [Act.put, List.setIfInBounds_toArray, List.set_cons_zero, List.set_cons_succ]
          refine Qt.y_nil ?_
          intro wd hbd
          have HX : Hid (Below wc.heap.size wc wd) := hbd
          clear hbd
          have HO1 : Hid (DAt wd (w.heap.size + 1 + 1 + 1) (mj (Cw.qw a i) b i (mi a b i) j).1) := HO.out.below HX.out HO.out.lt
          have hcd : wd.cell? ⟨w.heap.size + 1 + 1 + 1, i + j, none⟩ = some (.int .u64 (un ((mj (Cw.qw a i) b i (mi a b i) j).1 (i + j)))) := HO1.out.cell (i + j) (by omega)
          have hfd : wd.frozen? ⟨w.heap.size + 1 + 1 + 1, i + j, none⟩ = false := HO1.out.frozen (i + j)
          have HO2 : Hid (DAt (wd.setCell ⟨w.heap.size + 1 + 1 + 1, i + j, none⟩ (.int .u64 (un (maLo (Cw.qw a i) (Cw.qw b j) ((mj (Cw.qw a i) b i (mi a b i) j).1 (i + j)) (mj (Cw.qw a i) b i (mi a b i) j).2)))) (w.heap.size + 1 + 1 + 1) (mj (Cw.qw a i) b i (mi a b i) (j + 1)).1) := HO1.out.set (i + j) _
          have HR2 : Hid (DAt (wd.setCell ⟨w.heap.size + 1 + 1 + 1, i + j, none⟩ (.int .u64 (un (maLo (Cw.qw a i) (Cw.qw b j) ((mj (Cw.qw a i) b i (mi a b i) j).1 (i + j)) (mj (Cw.qw a i) b i (mi a b i) j).2)))) (w.heap.size + 1 + 1) (fun _ => 0#64)) := (HR.out.below HX.out HR.out.lt).setOther (by omega) _
          have HA2 : Hid (NAt (wd.setCell ⟨w.heap.size + 1 + 1 + 1, i + j, none⟩ (.int .u64 (un (maLo (Cw.qw a i) (Cw.qw b j) ((mj (Cw.qw a i) b i (mi a b i) j).1 (i + j)) (mj (Cw.qw a i) b i (mi a b i) j).2)))) w.heap.size a) := (HA.out.below HX.out HA.out.lt).setOther (by omega) _
          have HC2 : Hid (NAt (wd.setCell ⟨w.heap.size + 1 + 1 + 1, i + j, none⟩ (.int .u64 (un (maLo (Cw.qw a i) (Cw.qw b j) ((mj (Cw.qw a i) b i (mi a b i) j).1 (i + j)) (mj (Cw.qw a i) b i (mi a b i) j).2)))) (w.heap.size + 1) b) := (HC.out.below HX.out HC.out.lt).setOther (by omega) _
          have HB2 : Hid (Below w.heap.size w (wd.setCell ⟨w.heap.size + 1 + 1 + 1, i + j, none⟩ (.int .u64 (un (maLo (Cw.qw a i) (Cw.qw b j) ((mj (Cw.qw a i) b i (mi a b i) j).1 (i + j)) (mj (Cw.qw a i) b i (mi a b i) j).2))))) := (HB.out.trans (HX.out.mono HB.out.size)).setCell (by show w.heap.size ≤ w.heap.size + 1 + 1 + 1; omega) _
          clear HO1 HX HO HR HA HC HB
          go_wp2_with fail
          exact ⟨⟨j + 1, by omega, by go_num, rfl, HO2.out, HR2.out, HA2.out, HC2.out, HB2.out⟩, by simp [intOf]; omega⟩
        · obtain rfl : j = 4 := by omega
          have hcd : wc.cell? ⟨w.heap.size + 1 + 1 + 1, i + 4, none⟩ = some (.int .u64 (un ((mj (Cw.qw a i) b i (mi a b i) 4).1 (i + 4)))) := HO.out.cell (i + 4) (by omega)
          have hfd : wc.frozen? ⟨w.heap.size + 1 + 1 + 1, i + 4, none⟩ = false := HO.out.frozen (i + 4)
          have HO2 : Hid (DAt (wc.setCell ⟨w.heap.size + 1 + 1 + 1, i + 4, none⟩ (.int .u64 (un (mj (Cw.qw a i) b i (mi a b i) 4).2))) (w.heap.size + 1 + 1 + 1) (mi a b (i + 1))) := HO.out.set (i + 4) _
          have HR2 : Hid (DAt (wc.setCell ⟨w.heap.size + 1 + 1 + 1, i + 4, none⟩ (.int .u64 (un (mj (Cw.qw a i) b i (mi a b i) 4).2))) (w.heap.size + 1 + 1) (fun _ => 0#64)) := HR.out.setOther (by omega) _
          have HA2 : Hid (NAt (wc.setCell ⟨w.heap.size + 1 + 1 + 1, i + 4, none⟩ (.int .u64 (un (mj (Cw.qw a i) b i (mi a b i) 4).2))) w.heap.size a) := HA.out.setOther (by omega) _
          have HC2 : Hid (NAt (wc.setCell ⟨w.heap.size + 1 + 1 + 1, i + 4, none⟩ (.int .u64 (un (mj (Cw.qw a i) b i (mi a b i) 4).2))) (w.heap.size + 1) b) := HC.out.setOther (by omega) _
          have HB2 : Hid (Below w.heap.size w (wc.setCell ⟨w.heap.size + 1 + 1 + 1, i + 4, none⟩ (.int .u64 (un (mj (Cw.qw a i) b i (mi a b i) 4).2)))) := HB.out.setCell (by show w.heap.size ≤ w.heap.size + 1 + 1 + 1; omega) _
          clear HO HR HA HC HB
          go_wp2_with fail
          exact ⟨⟨i + 1, by omega, by go_num, HO2.out, HR2.out, HA2.out, HC2.out, HB2.out⟩, by simp [intOf]; omega⟩
    · obtain rfl : i = 4 := by omega
      go_wp2_with (first | refine load_d rfl _ rfl (w.heap.size + 1 + 1 + 1) (mi a b 4) rfl HO.out ?_ | refine store_d rfl _ _ rfl (w.heap.size + 1 + 1) (mi a b 4) (fun _ => 0#64) rfl rfl HR.out ?_)
      exact ret_d Tryz.results201 rfl (w.heap.size + 1 + 1) (mi a b 4) rfl (HR.out.setRow _) ⟨rfl, HB.out.trans ((below_setRow _ _ _).mono (by omega))⟩
end Ww
end Go.Proofs.YtbojijefenfbgaaGreatDoor
namespace Go.Proofs.YtbojijefenfbgaaGreatDoor
open Go.RowKit
namespace Ww
open Fw Bt
def sumB (B : Nat) (W : Nat → BitVec 64) : Nat → Nat
  | 0 => 0
  | n + 1 => sumB B W n + (W n).toNat * B ^ n
theorem sumB_upd (B : Nat) (W : Nat → BitVec 64) (k : Nat) (v : BitVec 64) (n : Nat) : (k < n → sumB B (updW W k v) n + (W k).toNat * B ^ k = sumB B W n + v.toNat * B ^ k) ∧ (n ≤ k → sumB B (updW W k v) n = sumB B W n) := by
  induction n with
  | zero => exact ⟨fun h => absurd h (by omega), fun _ => rfl⟩
  | succ n ih =>
    refine ⟨fun h => ?_, fun h => ?_⟩
    · show sumB B (updW W k v) n + (updW W k v n).toNat * B ^ n + _ = sumB B W n + (W n).toNat * B ^ n + _
      by_cases e : n = k
      · subst e
        rw [ih.2 (Nat.le_refl _), show updW W n v n = v from if_pos rfl]
        omega
      · rw [show updW W k v n = W n from if_neg e]
        have := ih.1 (by omega)
        omega
    · show sumB B (updW W k v) n + (updW W k v n).toNat * B ^ n = sumB B W n + (W n).toNat * B ^ n
      rw [ih.2 (by omega), show updW W k v n = W n from if_neg (by omega)]
theorem alg1 (B lo hi xb wk c P : Nat) (h : lo + B * hi = xb + wk + c) : lo * P + hi * (P * B) = xb * P + wk * P + c * P := by
  have h1 : (lo + B * hi) * P = (xb + wk + c) * P := by rw [h]
  rw [Nat.add_mul, Nat.add_mul, Nat.add_mul] at h1
  rw [← h1, Nat.mul_comm P B, ← Nat.mul_assoc, Nat.mul_comm hi B]
theorem alg2 (x s y Pj Pi : Nat) : x * (s + y * Pj) * Pi = x * s * Pi + x * y * (Pi * Pj) := by
  rw [Nat.mul_add, Nat.add_mul, Nat.mul_assoc x (y * Pj), Nat.mul_assoc y, Nat.mul_comm Pj, ← Nat.mul_assoc x y]
theorem alg3 (S' Hh Ll Wk Cc Xb Xs S T : Nat) (h1 : S' + Wk = S + Ll) (h4 : Ll + Hh = Xb + Wk + Cc) (h3 : S + Cc = T + Xs) : S' + Hh = T + (Xs + Xb) := by omega
section
variable (B : Nat) (hB : ∀ x y p q : BitVec 64, (maLo x y p q).toNat + B * (maHi x y p q).toNat = x.toNat * y.toNat + p.toNat + q.toNat)
include hB
theorem mj_val (x : BitVec 64) (b : Q) (i : Nat) (W : Nat → BitVec 64) (n j : Nat) (h : i + j ≤ n) : sumB B (mj x b i W j).1 n + (mj x b i W j).2.toNat * B ^ (i + j) = sumB B W n + x.toNat * sumB B (Cw.qw b) j * B ^ i := by
  induction j with
  | zero =>
    rw [show (mj x b i W 0).1 = W from rfl, show (mj x b i W 0).2 = 0#64 from rfl, show (0#64).toNat = 0 from rfl, show sumB B (Cw.qw b) 0 = 0 from rfl, Nat.zero_mul, Nat.mul_zero, Nat.zero_mul]
  | succ j ih =>
    have h3 := ih (by omega)
    have h1 := (sumB_upd B (mj x b i W j).1 (i + j) (maLo x (Cw.qw b j) ((mj x b i W j).1 (i + j)) (mj x b i W j).2) n).1 (by omega)
    have h2 := hB x (Cw.qw b j) ((mj x b i W j).1 (i + j)) (mj x b i W j).2
    rw [show (mj x b i W (j + 1)).1 = updW (mj x b i W j).1 (i + j) (maLo x (Cw.qw b j) ((mj x b i W j).1 (i + j)) (mj x b i W j).2) from rfl, show (mj x b i W (j + 1)).2 = maHi x (Cw.qw b j) ((mj x b i W j).1 (i + j)) (mj x b i W j).2 from rfl,
      show sumB B (Cw.qw b) (j + 1) = sumB B (Cw.qw b) j + (Cw.qw b j).toNat * B ^ j from rfl, ← Nat.add_assoc i j 1, Nat.pow_succ, alg2, ← Nat.pow_add]
    exact alg3 _ _ _ _ _ _ _ _ _ h1 (alg1 _ _ _ _ _ _ _ h2) h3
omit hB in
theorem mj_high (x : BitVec 64) (b : Q) (i : Nat) (W : Nat → BitVec 64) (j k : Nat) (h : i + j ≤ k) : (mj x b i W j).1 k = W k := by
  induction j with
  | zero => rfl
  | succ j ih =>
    show updW (mj x b i W j).1 (i + j) _ k = W k
    rw [show updW (mj x b i W j).1 (i + j) _ k = (mj x b i W j).1 k from if_neg (by omega), ih (by omega)]
omit hB in
theorem mi_high (a b : Q) (i k : Nat) (h : i + 4 ≤ k) : mi a b i k = 0#64 := by
  induction i with
  | zero => rfl
  | succ i ih =>
    show updW (mj (Cw.qw a i) b i (mi a b i) 4).1 (i + 4) _ k = 0#64
    rw [show updW (mj (Cw.qw a i) b i (mi a b i) 4).1 (i + 4) _ k = (mj (Cw.qw a i) b i (mi a b i) 4).1 k from if_neg (by omega), mj_high _ _ _ _ _ _ (by omega), ih (by omega)]
omit hB in
theorem sumB_zero (n : Nat) : sumB B (fun _ => 0#64) n = 0 := by
  induction n with
  | zero => rfl
  | succ n ih => show sumB B (fun _ => 0#64) n + (0#64).toNat * B ^ n = 0; rw [ih, show (0#64).toNat = 0 from rfl, Nat.zero_mul]
theorem mi_val (a b : Q) (n i : Nat) (hn : 8 ≤ n) (h : i ≤ 4) : sumB B (mi a b i) n = sumB B (Cw.qw a) i * sumB B (Cw.qw b) 4 := by
  induction i with
  | zero => rw [show mi a b 0 = fun _ => 0#64 from rfl, sumB_zero, show sumB B (Cw.qw a) 0 = 0 from rfl, Nat.zero_mul]
  | succ i ih =>
    have h1 := (sumB_upd B (mj (Cw.qw a i) b i (mi a b i) 4).1 (i + 4) (mj (Cw.qw a i) b i (mi a b i) 4).2 n).1 (by omega)
    have h2 := mj_val B hB (Cw.qw a i) b i (mi a b i) n 4 (by omega)
    rw [mj_high _ _ _ _ _ _ (Nat.le_refl _), mi_high _ _ _ _ (Nat.le_refl _), show (0#64).toNat = 0 from rfl, Nat.zero_mul, Nat.add_zero] at h1
    rw [ih (by omega)] at h2
    rw [show mi a b (i + 1) = updW (mj (Cw.qw a i) b i (mi a b i) 4).1 (i + 4) (mj (Cw.qw a i) b i (mi a b i) 4).2 from rfl, show sumB B (Cw.qw a) (i + 1) = sumB B (Cw.qw a) i + (Cw.qw a i).toNat * B ^ i from rfl, h1, h2, Nat.add_mul, Nat.mul_right_comm]
end
theorem sumB_high (B : Nat) (hB : 0 < B) (W : Nat → BitVec 64) (hW : ∀ k, (W k).toNat < B) (k n : Nat) (hk : k < n) : ∃ r, sumB B W n / B ^ k = (W k).toNat + B * r := by
  have hP : ∀ m, 0 < B ^ m := fun m => Nat.pow_pos hB
  have hlow : ∀ m, sumB B W m < B ^ m := fun m => by
    induction m with
    | zero => exact Nat.one_pos
    | succ m ih =>
      show sumB B W m + (W m).toNat * B ^ m < B ^ (m + 1)
      have h2 : ((W m).toNat + 1) * B ^ m ≤ B * B ^ m := Nat.mul_le_mul_right _ (hW m)
      rw [Nat.pow_succ, Nat.mul_comm (B ^ m) B]
      rw [Nat.add_mul, Nat.one_mul] at h2
      omega
  induction n with
  | zero => omega
  | succ n ih =>
    by_cases e : k = n
    · subst e
      refine ⟨0, ?_⟩
      show (sumB B W k + (W k).toNat * B ^ k) / B ^ k = _
      rw [Nat.add_mul_div_right _ _ (hP k), Nat.div_eq_of_lt (hlow k)]
      omega
    · obtain ⟨r, hr⟩ := ih (by omega)
      refine ⟨r + (W n).toNat * B ^ (n - 1 - k), ?_⟩
      show (sumB B W n + (W n).toNat * B ^ n) / B ^ k = _
      have e0 : B ^ n = B * B ^ (n - 1 - k) * B ^ k := by
        rw [Nat.mul_comm B, ← Nat.pow_succ, ← Nat.pow_add]
        congr 1
        omega
      have e1 : (W n).toNat * B ^ n = (B * ((W n).toNat * B ^ (n - 1 - k))) * B ^ k := by
        rw [e0]
        simp only [Nat.mul_assoc, Nat.mul_left_comm]
      rw [e1, Nat.add_mul_div_right _ _ (hP k), hr, Nat.mul_add, Nat.add_assoc]
def BB : Nat := 18446744073709551616
theorem BB_eq : BB = 18446744073709551616 := rfl
theorem sumQ_num (q : Q) : sumB BB (Cw.qw q) 4 = q.num := by
  have e : ∀ B, sumB B (Cw.qw q) 4 = 0 + q.a0.toNat * B ^ 0 + q.a1.toNat * B ^ 1 + q.a2.toNat * B ^ 2 + q.a3.toNat * B ^ 3 := fun B => rfl
  rw [e, BB_eq]
  unfold Q.num
  omega
theorem mul_num (a b : Q) : sumB BB (mi a b 4) 8 = a.num * b.num := by
  rw [mi_val BB (fun x y p q => by rw [BB_eq]; exact ma_val x y p q) a b 8 4 (Nat.le_refl _) (Nat.le_refl _), sumQ_num, sumQ_num]
theorem bit_low (x r s : Nat) (hs : s < 64) : (x + BB * r) / 2 ^ s % 2 = x / 2 ^ s % 2 := by
  have e : BB * r = (2 * (2 ^ (63 - s) * r)) * 2 ^ s := by
    have h : BB = 2 * 2 ^ (63 - s) * 2 ^ s := by
      rw [Nat.mul_assoc, ← Nat.pow_add, show 63 - s + s = 63 by omega, BB_eq]
    rw [h]
    generalize 2 ^ (63 - s) = u
    generalize 2 ^ s = v
    simp only [Nat.mul_assoc, Nat.mul_left_comm, Nat.mul_comm]
  rw [e, Nat.add_mul_div_right _ _ (Nat.two_pow_pos s)]
  omega
theorem bit_W (W : Nat → BitVec 64) (i : Nat) (hi : i < 512) : sumB BB W 8 / 2 ^ i % 2 = (W (i / 64)).toNat / 2 ^ (i % 64) % 2 := by
  obtain ⟨r, hr⟩ := sumB_high BB (by decide) W (fun k => by rw [BB_eq]; exact (W k).isLt) (i / 64) 8 (by omega)
  have e : (2 : Nat) ^ i = BB ^ (i / 64) * 2 ^ (i % 64) := by
    rw [show BB = 2 ^ 64 from rfl, ← Nat.pow_mul, ← Nat.pow_add]
    congr 1
    omega
  rw [e, ← Nat.div_div_eq_div_mul, hr, bit_low _ _ _ (by omega)]
end Ww
end Go.Proofs.YtbojijefenfbgaaGreatDoor
