/- Walks of the program's curve: Sum. -/
/- Walks of the program's curve: Sum. -/
import Derived.Test.YtbojijefenfbgaaDoorSgCurveC
namespace Go.Proofs.YtbojijefenfbgaaDoor
open Go.RowKit
namespace Own
/-- 'make([]T, n)' of elements of many cells: the new block, told whole. -/
theorem wpList_make_row {P : Program} (w : World) {ops : Array Oper} {rest : List Oper} {o : Oper} {a : Act} {Q : Exit → Act → World → Prop}
    (hg : o.guard = none) (l c : Operand) (t : TypeId) (hop : o.op = Op.makeSlice t l c)
    (e : TypeId) (z : Value) (sz by1 : Nat) (h1 : P.underlying t = some (.slice e)) (h2 : (P.info? e).map (fun i => (i.zero, i.size, i.bytes)) = some (some z, sz, by1))
    (kl kc : IntKind) (n : Nat) (hl : a.eval l = .int kl (n : Int)) (hc : a.eval c = .int kc (n : Int)) (b2 : by1 * n ≤ 281474976710656) (b3 : n ≤ 281474976710656)
    (hK : wpList P ops Q rest (a.put o.dst (.slice (some ⟨w.heap.size, 0, none⟩) n n)) (w.alloc (.cells (madeCells z.cells (n * sz)) e))) :
    wpList P ops Q (o :: rest) a w := by
  refine wpList_plain hg fun K hK' => ?_
  obtain ⟨i, hi, hz0, hz1, hz2⟩ := info_parts h2
  have hrun := run_make (P := P) w t e i z h1 hi hz0 kl kc (n : Int) (n : Int) (by omega) (by omega) (by rw [hz2]; omega) (by omega)
  rw [hz1] at hrun
  simp only [Int.toNat_natCast] at hrun
  unfold Oper.wp
  simp [execOp, hop, hl, hc, hrun, Result.andThen]
  exact hK' _ _ hK
end Own
namespace Cw
open Fw
/-- Tables in a row. -/
noncomputable def ttc (F : Nat → Nat → Ed.E) (j : Nat) : Value := tc (F (j / 256)) (j % 256)
def TTAt (w : World) (b m : Nat) (F : Nat → Nat → Ed.E) : Prop := w.heap[b]? = some (.cells (Own.mkRow (m * 256) (ttc F)) 116 (0, 0))
theorem zero_cells : Tryd.zeroCells116 = Own.mkRow 256 (fun _ => .int .u64 0) := by kernel_rfl
theorem made_tt (m : Nat) : madeCells (Value.agg Tryd.zeroCells116).cells (m * 256) = Own.mkRow (m * 256) (ttc (fun _ _ => e0)) := by
  rw [show (Value.agg Tryd.zeroCells116).cells = Tryd.zeroCells116 from rfl, zero_cells]
  apply Array.ext_getElem?
  intro i
  by_cases h : i < m * 256
  · rw [Own.mkRow_get h]
    have hz : ttc (fun _ _ => e0) i = .int .u64 0 := pw_e0 (i % 256 % 16) (by omega)
    rw [hz]
    have hm : (Own.mkRow 256 (fun _ => Value.int .u64 0))[i % 256]? = some (.int .u64 0) := Own.mkRow_get (by omega)
    simp [madeCells, h, Own.mkRow_size]
    rw [getElem!_def, hm]
  · rw [Own.mkRow_get_out (by omega)]
    simp [madeCells, h]
end Cw
namespace Qt
theorem y_idxs {P : Program} {W : World} {K : Act → Prop} {l : List Oper} {o : Oper} {a : Act} (hg : o.guard = none) (t : TypeId) (x ix : Operand) (ho : o.op = .indexAddr t x ix) (e : TypeId) (sz : Nat) (hu : P.underlying t = some (.slice e)) (hs : P.cellsOf e = sz) (hi0 : (P.info? e).isSome = true) (b off len cap n : Nat) (k : IntKind)
    (hx : a.eval x = .slice (some ⟨b, off, none⟩) len cap) (hi : a.eval ix = .int k (n : Int)) (hn : n < len) (h : Lex P W K l (a.put o.dst (.pointer (some ⟨b, off + n * sz, none⟩)))) : Lex P W K (o :: l) a := by
  refine y_val hg _ (fun w' _ => ?_) h
  obtain ⟨i, hi1⟩ := Option.isSome_iff_exists.1 hi0
  have h1 : (underlying t).run P w' = .ok (.slice e) w' := run_underlying hu w'
  have h2 : (sizeOf e).run P w' = .ok sz w' := by rw [← hs]; exact run_sizeOf w' hi1
  have h3 : (Instr.indexAt t (.slice (some ⟨b, off, none⟩) len cap) (.int k (n : Int))).run P w' = .ok (.pointer (some ⟨b, off + n * sz, none⟩)) w' := by
    simp [Instr.indexAt, asIntOf, h1, h2, hn, Addr.add_mid]
  unfold execOp
  simp only [ho, hx, hi, Sem.run_bind, Sem.run_pure, Result.andThen_ok, h3]
theorem wp_plainN {P : Program} {Q : Exit → Act → World → Prop} {a : Act} {w : World} {l : List Oper} (N : Nat) (_ : l.length = N) (n : Nat) (h : Lex P w (fun a' => ∀ w', Below w.heap.size w w' → wpList P l.toArray Q (l.drop n) a' w') (l.take n) a) : wpList P l.toArray Q l a w := wp_plainL n h
end Qt
namespace Cw
open Fw
theorem load_u64 (w : World) (b off : Nat) (v : Value) (h : w.cell? ⟨b, off, none⟩ = some v) : (loadVar 44 ⟨b, off, none⟩).run Tryd.prog w = .ok v w := by
  have h1 := run_underlying (P := Tryd.prog) Tryd.underlying44 w
  simp [loadVar, go_sem, h]
theorem y_u64 {W : World} {K : Act → Prop} {l : List Oper} {o : Oper} {a : Act} (hg : o.guard = none) (x : Operand) (ho : o.op = .load 44 x) (b off : Nat) (v : Value) (hx : a.eval x = .pointer (some ⟨b, off, none⟩)) (hb : b < W.heap.size) (hc : W.cell? ⟨b, off, none⟩ = some v)
    (h : Qt.Lex Tryd.prog W K l (a.put o.dst v)) : Qt.Lex Tryd.prog W K (o :: l) a := by
  refine Qt.y_val hg v (fun w' hw' => ?_) h
  have h1 := load_u64 w' b off v (by rw [hw'.cell (by exact hb)]; exact hc)
  unfold execOp
  simp only [ho, hx, Instr.loadAt, Instr.sureAddr, Sem.run_bind, Sem.run_pure, Result.andThen_ok, h1]
/-! Terms -/
noncomputable def tw (t : Q × Ed.E) : Array Value := t.1.cells ++ pw t.2
theorem tw_size (t : Q × Ed.E) : (tw t).size = 20 := by unfold tw; rw [Array.size_append, pw_size]; rfl
theorem tw_one (t : Q × Ed.E) : (tw t).all (·.oneCell') = true := by
  unfold tw
  rw [Array.all_append, pw_one, Q.cells_one]; rfl
def tmZero : Array Value := #[.int .u64 0, .int .u64 0, .int .u64 0, .int .u64 0, .int .u64 0, .int .u64 0, .int .u64 0, .int .u64 0, .int .u64 0, .int .u64 0, .int .u64 0, .int .u64 0, .int .u64 0, .int .u64 0, .int .u64 0, .int .u64 0, .int .u64 0, .int .u64 0, .int .u64 0, .int .u64 0]
def MAt (w : World) (b : Nat) (t : Q × Ed.E) : Prop := w.heap[b]? = some (.cells (tw t) 97 (0, 0))
theorem MAt.lt {w : World} {b : Nat} {t : Q × Ed.E} (h : MAt w b t) : b < w.heap.size := (Array.getElem?_eq_some_iff.1 h).1
theorem MAt.below {w w' : World} {b : Nat} {t : Q × Ed.E} (h : MAt w b t) {k : Nat} (hb : Below k w w') (hk : b < k) : MAt w' b t := (hb.block b hk).trans h
theorem MAt.point {w : World} {b : Nat} {t : Q × Ed.E} (h : MAt w b t) : w.rangeAt b 4 (pw t.2).toList := fun j v hv => by
  rw [cell_of_row w b (4 + j) _ _ _ h]
  unfold tw
  rw [Array.getElem?_append_right (by show 4 ≤ 4 + j; omega)]
  rw [show 4 + j - t.1.cells.size = j from by show 4 + j - 4 = j; omega]
  simpa using hv
def qw (q : Q) (k : Nat) : BitVec 64 := if k = 0 then q.a0 else if k = 1 then q.a1 else if k = 2 then q.a2 else q.a3
theorem MAt.word {w : World} {b : Nat} {t : Q × Ed.E} (h : MAt w b t) (k : Nat) (hk : k < 4) : w.cell? ⟨b, k, none⟩ = some (.int .u64 (un (qw t.1 k))) := by
  rw [cell_of_row w b k _ _ _ h]
  unfold tw
  rw [Array.getElem?_append_left (by show k < 4; exact hk)]
  rcases k with _ | _ | _ | _ | k <;> first | rfl | omega
theorem MAt.setRow {w : World} {b : Nat} {o : Array Value} (h : w.heap[b]? = some (.cells o 97 (0, 0))) (t : Q × Ed.E) : MAt (w.setRow b (tw t)) b t := setRow_heap _ _ _ _ _ _ h
theorem load_m {ops : Array Oper} {rest : List Oper} {o : Oper} {a : Act} {w : World} {Q : Exit → Act → World → Prop} (hg : o.guard = none) (x : Operand) (ho : o.op = .load 97 x) (b off : Nat) (t : Fw.Q × Ed.E) (hx : a.eval x = .pointer (some ⟨b, off, none⟩)) (hr : w.rangeAt b off (tw t).toList)
    (h : wpList Tryd.prog ops Q rest (a.put o.dst (.agg (tw t))) w) : wpList Tryd.prog ops Q (o :: rest) a w :=
  wpList_load_mid hg 97 x ho b off hx (tw t).toList _ hr Tryd.underlying97 rfl (by rw [Array.length_toList, tw_size]; kernel_rfl) h
theorem store_m {ops : Array Oper} {rest : List Oper} {o : Oper} {a : Act} {w : World} {Q : Exit → Act → World → Prop} (hg : o.guard = none) (x y : Operand) (ho : o.op = .store 97 x y) (b : Nat) (t : Fw.Q × Ed.E) (hx : a.eval x = .pointer (some ⟨b, 0, none⟩)) (hy : a.eval y = .agg (tw t)) (hb : w.heap[b]? = some (.cells tmZero 97 (0, 0)))
    (h : wpList Tryd.prog ops Q rest (a.put o.dst undef) (w.setRow b (tw t))) : wpList Tryd.prog ops Q (o :: rest) a w :=
  wpList_store_row hg 97 x y ho b (tw t) hx hy 97 tmZero hb (by rw [tw_size]; kernel_rfl) ((tw_size t).symm ▸ rfl) (tw_one t) h
theorem load_pm {ops : Array Oper} {rest : List Oper} {o : Oper} {a : Act} {w : World} {Q : Exit → Act → World → Prop} (hg : o.guard = none) (x : Operand) (ho : o.op = .load 91 x) (b off : Nat) (v : Ed.E) (hx : a.eval x = .pointer (some ⟨b, off, none⟩)) (hr : w.rangeAt b off (pw v).toList)
    (h : wpList Tryd.prog ops Q rest (a.put o.dst (.agg (pw v))) w) : wpList Tryd.prog ops Q (o :: rest) a w :=
  wpList_load_mid hg 91 x ho b off hx (pw v).toList _ hr Tryd.underlying91 rfl (by rw [Array.length_toList, pw_size]; kernel_rfl) h
/-! Tables in a row -/
theorem TTAt.lt {w : World} {b m : Nat} {F : Nat → Nat → Ed.E} (h : TTAt w b m F) : b < w.heap.size := (Array.getElem?_eq_some_iff.1 h).1
theorem TTAt.below {w w' : World} {b m : Nat} {F : Nat → Nat → Ed.E} (h : TTAt w b m F) {k : Nat} (hb : Below k w w') (hk : b < k) : TTAt w' b m F := (hb.block b hk).trans h
theorem TTAt.range {w : World} {b m : Nat} {F : Nat → Nat → Ed.E} (h : TTAt w b m F) (i j : Nat) (hi : i < m) (hj : j < 16) : w.rangeAt b (256 * i + 16 * j) (pw (F i j)).toList := fun n v hv => by
  have hn : n < 16 := by
    have := (List.getElem?_eq_some_iff.1 hv).1
    rw [Array.length_toList, pw_size] at this
    exact this
  rw [Own.row_cell h (256 * i + 16 * j + n) (by omega)]
  unfold ttc tc
  rw [show (256 * i + 16 * j + n) / 256 = i by omega, show (256 * i + 16 * j + n) % 256 / 16 = j by omega, show (256 * i + 16 * j + n) % 256 % 16 = n by omega]
  have h2 : (pw (F i j))[n]? = some v := by simpa using hv
  rw [h2]; rfl
theorem TTAt.there {w : World} {b m : Nat} {F : Nat → Nat → Ed.E} (h : TTAt w b m F) (i : Nat) (hi : i < m) : w.there b (256 * i) 256 := fun j hj =>
  ⟨by rw [Own.row_cell h (256 * i + j) (by omega)]; rfl, Own.row_frozen h _⟩
theorem TTAt.set {w : World} {b m : Nat} {F : Nat → Nat → Ed.E} (h : TTAt w b m F) (i : Nat) (_hi : i < m) (f : Nat → Ed.E) : TTAt (w.setCells b (256 * i) (tbl f).toList) b m (fun k => if k = i then f else F k) := by
  have h' : w.heap[b]? = some (.cells (Own.mkRow (m * 256) (ttc F)) 116 (0, 0)) := h
  have h2 := row_cells (tbl f).toList (256 * i) w (ttc F) h'
  show (w.setCells b (256 * i) (tbl f).toList).heap[b]? = some (.cells (Own.mkRow (m * 256) (ttc (fun k => if k = i then f else F k))) 116 (0, 0))
  rw [h2]
  refine congrArg (fun c => some (Obj.cells c 116 (0, 0))) ?_
  refine Own.mkRow_congr fun j hj => ?_
  rw [Array.length_toList, tbl_size]
  unfold ttc
  by_cases hc : 256 * i ≤ j ∧ j < 256 * i + 256
  · rw [if_pos hc]
    show _ = tc (if j / 256 = i then f else F (j / 256)) (j % 256)
    rw [if_pos (by omega), show j - 256 * i = j % 256 by omega]
    have hg : (tbl f)[j % 256]? = some (tc f (j % 256)) := by rw [tbl_def]; exact Own.mkRow_get (by omega)
    simp [hg]
  · rw [if_neg hc]
    show _ = tc (if j / 256 = i then f else F (j / 256)) (j % 256)
    rw [if_neg (by omega)]
theorem store_tt {ops : Array Oper} {rest : List Oper} {o : Oper} {a : Act} {w : World} {Q : Exit → Act → World → Prop} (hg : o.guard = none) (x y : Operand) (ho : o.op = .store 116 x y) (b off : Nat) (f : Nat → Ed.E) (hx : a.eval x = .pointer (some ⟨b, off, none⟩)) (hy : a.eval y = .agg (tbl f)) (hb : w.there b off 256)
    (h : wpList Tryd.prog ops Q rest (a.put o.dst undef) (w.setCells b off (tbl f).toList)) : wpList Tryd.prog ops Q (o :: rest) a w :=
  wpList_store_mid hg 116 x y ho b off (tbl f) hx hy (by rw [tbl_size]; exact hb) (by rw [tbl_size]; kernel_rfl) (tbl_one f) h
end Cw
end Go.Proofs.YtbojijefenfbgaaDoor
namespace Go.Proofs.YtbojijefenfbgaaDoor
open Go.RowKit
namespace Cw
open Fw
/-- The digit number i (of four bits). -/
def dgW (q : Q) (i : Nat) : BitVec 64 := qw q (i / 16) >>> (4 * (i % 16)) &&& 15#64
/-- One digit's sums: of the first j terms. -/
def ein (T : Nat → Q × Ed.E) (i : Nat) (acc : Ed.E) : Nat → Ed.E
  | 0 => acc
  | j + 1 => Ed.eadd (ein T i acc j) (Ed.emul (T j).2 (dgW (T j).1 i).toNat)
def dbl4 (e : Ed.E) : Ed.E := Ed.edbl (Ed.edbl (Ed.edbl (Ed.edbl e)))
/-- Behind d digits, from the highest on. -/
def esum (T : Nat → Q × Ed.E) (m : Nat) : Nat → Ed.E
  | 0 => Ed.ezero
  | d + 1 => ein T (63 - d) (dbl4 (esum T m d)) m
noncomputable def FT (T : Nat → Q × Ed.E) (k : Nat) : Nat → Nat → Ed.E := fun j => if j < k then Ed.emul (T j).2 else fun _ => e0
theorem FT_succ (T : Nat → Q × Ed.E) (k : Nat) : (fun j => if j = k then Ed.emul (T k).2 else FT T k j) = FT T (k + 1) := by
  funext j
  unfold FT
  by_cases h : j = k
  · subst h; rw [if_pos rfl, if_pos (by omega)]
  · rw [if_neg h]
    by_cases h2 : j < k
    · rw [if_pos h2, if_pos (by omega)]
    · rw [if_neg h2, if_neg (by omega)]
theorem FT_zero (T : Nat → Q × Ed.E) : FT T 0 = fun _ _ => e0 := by
  funext j
  unfold FT
  rw [if_neg (by omega)]
noncomputable abbrev S2 (w : World) (m : Nat) : World := (w.alloc (.cells ptZero 91)).alloc (.cells (madeCells Tryd.zeroCells116 (m * 256)) 116)
theorem S2_r (w : World) (m : Nat) : PAt (S2 w m) w.heap.size e0 := PAt.below (.zero (alloc_at w _ _ rfl)) ((Below.refl (w.heap.size + 1) _).alloc (by simp) _) (by omega)
theorem S2_t (w : World) (m : Nat) : TTAt (S2 w m) (w.heap.size + 1) m (fun _ _ => e0) := by
  unfold TTAt
  rw [← made_tt]
  exact alloc_at _ _ _ (by simp)
theorem S2_b (w : World) (m : Nat) : Below w.heap.size w (S2 w m) := ((Below.refl _ _).alloc (Nat.le_refl _) _).alloc (by simp) _
theorem TTAt.setRow {w : World} {b c m : Nat} {F : Nat → Nat → Ed.E} (h : TTAt w b m F) (hne : b ≠ c) (cs : Array Value) : TTAt (w.setRow c cs) b m F := by
  unfold TTAt at *
  rw [← h]
  show (Array.modify _ _ _)[b]? = _
  rw [Array.getElem?_modify, if_neg (Ne.symm hne)]

theorem l_declP {ops : Array Oper} {rest : List Oper} {oa os : Oper} {a : Act} {w : World} {Q : Exit → Act → World → Prop} {x y : Operand} (hga : oa.guard = none) (ha : oa.op = .alloc 91) (hgs : os.guard = none) (hs : os.op = .store 91 x y) (v : Ed.E)
    (hx : ∀ b, (a.put oa.dst (.pointer (some ⟨b, 0, none⟩))).eval x = .pointer (some ⟨b, 0, none⟩)) (hy : ∀ b, (a.put oa.dst (.pointer (some ⟨b, 0, none⟩))).eval y = .agg (pw v))
    (h : ∀ w2 b, w.heap.size ≤ b → PAt w2 b v → Below w.heap.size w w2 → wpList Tryd.prog ops Q rest ((a.put oa.dst (.pointer (some ⟨b, 0, none⟩))).put os.dst undef) w2) : wpList Tryd.prog ops Q (oa :: os :: rest) a w := by
  refine Own.wpList_alloc_at _ hga 91 ha ptZero (by kernel_rfl) ?_
  have hz : PAt (w.alloc (.cells ptZero 91)) w.heap.size e0 := .zero (alloc_at _ _ _ rfl)
  refine store_p hgs x y hs w.heap.size v e0 (hx _) (hy _) hz ?_
  exact h _ _ (Nat.le_refl _) (hz.setRow v) (((Below.refl _ _).alloc (Nat.le_refl _) _).trans (below_setRow _ _ _))

theorem load_u {ops : Array Oper} {rest : List Oper} {o : Oper} {a : Act} {w : World} {Q : Exit → Act → World → Prop} (hg : o.guard = none) (x : Operand) (ho : o.op = .load 44 x) (b off : Nat) (v : Value) (hx : a.eval x = .pointer (some ⟨b, off, none⟩)) (hc : w.cell? ⟨b, off, none⟩ = some v)
    (h : wpList Tryd.prog ops Q rest (a.put o.dst v) w) : wpList Tryd.prog ops Q (o :: rest) a w := by
  refine wpList_plain hg fun K hK => ?_
  unfold Oper.wp execOp
  simp only [ho, hx, Instr.loadAt, Instr.sureAddr, Sem.run_bind, Sem.run_pure, Result.andThen_ok, load_u64 w b off v hc]
  exact hK _ _ h
theorem and15 (x : BitVec 64) : bits .and .u64 (un x) 15 = un (x &&& 15#64) := UV.u_and x 15#64
theorem dg_lt (q : Q) (i : Nat) : (dgW q i).toNat < 16 := by
  unfold dgW
  rw [BitVec.toNat_and]
  exact Nat.lt_of_le_of_lt Nat.and_le_right (by decide)
attribute [local go_sem] and15 UV.u_add UV.u_mul UV.u_sub UV.u_xor UV.u_and UV.u_or UV.u_shr UV.u_shl UV.u_not UV.u_notm UV.u_wrap_un

set_option maxRecDepth 100000 in
set_option maxHeartbeats 2000000 in
theorem sum_p (tb m : Nat) (hm : m ≤ 2) (T : Nat → Q × Ed.E) (w : World) (htb : tb < w.heap.size) (hT : ∀ j, j < m → w.rangeAt tb (j * 20) (tw (T j)).toList) :
    Calls Tryd.prog 58 #[.slice (some ⟨tb, 0, none⟩) m m] w fun e w' => e = .returned (.agg (pw (esum T m 64))) ∧ Below w.heap.size w w' := by
  have HTB : Hid (tb < w.heap.size) := htb
  have HTT : Hid (∀ w', Below w.heap.size w w' → ∀ j, j < m → w'.rangeAt tb (j * 20) (tw (T j)).toList) := fun w' hw' j hj n v hv => by
    rw [hw'.cell (by exact htb)]; exact hT j hj n v hv
  clear htb hT
  go_enter Tryd.func58, Tryd.ntmps58
  go_wp2_with (refine Own.wpList_make_row _ rfl _ _ 115 rfl 116 (.agg Tryd.zeroCells116) 256 2048 Tryd.underlying115 (by kernel_rfl) .i64 .i64 m rfl rfl (by omega) (by omega) ?_)
  go_loopw [16] (fun i wq => ∃ k : Nat, k ≤ m ∧ i = .int .i64 (k : Int) ∧ TTAt wq (w.heap.size + 1) m (FT T k) ∧ PAt wq w.heap.size e0 ∧ Below w.heap.size w wq) (fun i _ => m - (intOf i).toNat)
  case atStart => exact ⟨0, by omega, rfl, by rw [FT_zero]; exact S2_t w m, S2_r w m, S2_b w m⟩
  case round =>
    rename World => wa
    obtain ⟨k, hk, rfl, ht, hr, hb⟩ := hrel
    have HT : Hid (TTAt wa (w.heap.size + 1) m (FT T k)) := ht
    have HR : Hid (PAt wa w.heap.size e0) := hr
    have HB : Hid (Below w.heap.size w wa) := hb
    clear ht hr hb
    by_cases hkm : k < m
    · have HTk : Hid (wa.rangeAt tb (k * 20) (tw (T k)).toList) := HTT.out wa HB.out k hkm
      have HM : Hid (MAt ((wa.alloc (.cells tmZero 97)).setRow wa.heap.size (tw (T k))) wa.heap.size (T k)) := MAt.setRow (alloc_at _ _ _ rfl) (T k)
      have HX : Hid (Below wa.heap.size wa ((wa.alloc (.cells tmZero 97)).setRow wa.heap.size (tw (T k)))) := ((Below.refl _ _).alloc (Nat.le_refl _) _).trans (below_setRow _ _ _)
      go_wp2_with (first | refine load_m rfl _ rfl tb (k * 20) (T k) rfl HTk.out ?_ | refine load_pm rfl _ rfl wa.heap.size 4 (T k).2 rfl HM.out.point ?_ | refine store_m rfl _ _ rfl wa.heap.size (T k) rfl rfl (heap_alloc_new _ _) ?_)
      refine (mult_p (T k).2 _).mono ?_
      rintro e w2 ⟨rfl, hb2⟩
      have HX2 : Hid (Below wa.heap.size wa w2) := HX.out.trans (hb2.mono HX.out.size)
      have HT2 : Hid (TTAt w2 (w.heap.size + 1) m (FT T k)) := HT.out.below HX2.out HT.out.lt
      have HTh : Hid (w2.there (w.heap.size + 1) (k * 256) 256) := by
        have h := HT2.out.there k hkm
        rw [Nat.mul_comm] at h
        exact h
      clear hb2
      go_wp2_with (refine store_tt rfl _ _ rfl (w.heap.size + 1) (k * 256) (Ed.emul (T k).2) rfl rfl HTh.out ?_)
      refine ⟨⟨k + 1, by omega, by go_num, ?_, ?_, ?_⟩, by simp [intOf]; omega⟩
      · have h := HT2.out.set k hkm (Ed.emul (T k).2)
        rw [FT_succ, Nat.mul_comm] at h
        exact h
      · exact (HR.out.below HX2.out HR.out.lt).setCells (by omega) _
      · exact below_setCells (by omega) _ _ _ _ (HB.out.trans (HX2.out.mono HB.out.size))
    · obtain rfl : k = m := by omega
      go_wp2_with fail
      refine (zero_p _).mono ?_
      rintro e w2 ⟨rfl, hb2⟩
      have HX2 : Hid (Below wa.heap.size wa w2) := hb2
      clear hb2
      go_wp2_with (refine l_declP rfl rfl rfl rfl Ed.ezero (fun _ => rfl) (fun _ => rfl) ?_)
      intro w3 bs hle hW hb3
      have HL : Hid (w2.heap.size ≤ bs) := hle
      have HX3 : Hid (Below w2.heap.size w2 w3) := hb3
      have HS3 : Hid (PAt w3 bs Ed.ezero) := hW
      have HT3 : Hid (TTAt w3 (w.heap.size + 1) k (FT T k)) := (HT.out.below HX2.out HT.out.lt).below HX3.out (HT.out.below HX2.out HT.out.lt).lt
      have HR3 : Hid (PAt w3 w.heap.size e0) := (HR.out.below HX2.out HR.out.lt).below HX3.out (HR.out.below HX2.out HR.out.lt).lt
      have HB3 : Hid (Below w.heap.size w w3) := (HB.out.trans (HX2.out.mono HB.out.size)).trans (HX3.out.mono (Nat.le_trans HB.out.size HX2.out.size))
      have HN : Hid (w.heap.size + 1 < bs) := by
        have h1 := HT.out.lt
        have h2 := HX2.out.size
        have h3 := HL.out
        show _ < _
        omega
      clear hle hW hb3 HL HX3 HX2 HT HR HB
      go_wp2_with fail
      go_loopw [7] (fun i wq => ∃ n : Nat, n ≤ 64 ∧ i = .int .i64 ((n : Int) - 1) ∧ PAt wq bs (esum T k (64 - n)) ∧ TTAt wq (w.heap.size + 1) k (FT T k) ∧ PAt wq w.heap.size e0 ∧ Below w.heap.size w wq) (fun i _ => (intOf i + 1).toNat)
      case atStart => exact ⟨64, by omega, rfl, HS3.out, HT3.out, HR3.out, HB3.out⟩
      case round =>
        clear HS3 HT3 HR3 HB3
        rename World => wc
        obtain ⟨n, hn, rfl, hs, ht, hr, hb⟩ := hrel
        have HS : Hid (PAt wc bs (esum T k (64 - n))) := hs
        have HT : Hid (TTAt wc (w.heap.size + 1) k (FT T k)) := ht
        have HR : Hid (PAt wc w.heap.size e0) := hr
        have HB : Hid (Below w.heap.size w wc) := hb
        clear hs ht hr hb
        rcases n with _ | i
        · go_wp2_with (first | refine load_p rfl _ rfl bs (esum T k 64) rfl HS.out ?_ | refine store_p rfl _ _ rfl w.heap.size (esum T k 64) e0 rfl rfl HR.out ?_)
          exact ret_p Tryd.results58 rfl w.heap.size (esum T k 64) rfl (HR.out.setRow _) ⟨rfl, HB.out.trans ((below_setRow _ _ _).mono (Nat.le_refl _))⟩
        · have ei : (((i + 1 : Nat) : Int) - 1) = (i : Int) := by omega
          rw [ei]
          have hi : i < 64 := by omega
          obtain ⟨acc, hacc⟩ : ∃ acc, acc = esum T k (64 - (i + 1)) := ⟨_, rfl⟩
          rw [← hacc] at HS
          have Hacc : Hid (acc = esum T k (64 - (i + 1))) := hacc
          clear hacc ei
          go_wp2_with (refine Qt.wp_plainN 6 rfl 5 ?_)
          refine y_pt rfl _ rfl bs acc rfl HS.out ?_
          refine Qt.y_call rfl 80 #[.agg (pw acc)] (.agg (pw (Ed.edbl acc))) (fun _ => by kernel_rfl) (fun w' _ => dbl_p acc w') ?_
          refine Qt.y_call rfl 80 #[.agg (pw (Ed.edbl acc))] (.agg (pw (Ed.edbl (Ed.edbl acc)))) (fun _ => by kernel_rfl) (fun w' _ => dbl_p (Ed.edbl acc) w') ?_
          refine Qt.y_call rfl 80 #[.agg (pw (Ed.edbl (Ed.edbl acc)))] (.agg (pw (Ed.edbl (Ed.edbl (Ed.edbl acc))))) (fun _ => by kernel_rfl) (fun w' _ => dbl_p (Ed.edbl (Ed.edbl acc)) w') ?_
          refine Qt.y_call rfl 80 #[.agg (pw (Ed.edbl (Ed.edbl (Ed.edbl acc))))] (.agg (pw (dbl4 acc))) (fun _ => by kernel_rfl) (fun w' _ => dbl_p (Ed.edbl (Ed.edbl (Ed.edbl acc))) w') ?_
          simp only [Act.put, List.setIfInBounds_toArray, List.set_cons_zero, List.set_cons_succ]
          refine Qt.y_nil ?_
          intro w5 hb5
          have HX : Hid (Below wc.heap.size wc w5) := hb5
          clear hb5
          have HS5 : Hid (PAt w5 bs acc) := HS.out.below HX.out HS.out.lt
          have HT5 : Hid (TTAt w5 (w.heap.size + 1) k (FT T k)) := HT.out.below HX.out HT.out.lt
          have HR5 : Hid (PAt w5 w.heap.size e0) := HR.out.below HX.out HR.out.lt
          have HB5 : Hid (Below w.heap.size w w5) := HB.out.trans (HX.out.mono HB.out.size)
          refine store_p rfl _ _ rfl bs (dbl4 acc) acc rfl rfl HS5.out ?_
          have HS6 : Hid (PAt (w5.setRow bs (pw (dbl4 acc))) bs (dbl4 acc)) := HS5.out.setRow _
          have HT6 : Hid (TTAt (w5.setRow bs (pw (dbl4 acc))) (w.heap.size + 1) k (FT T k)) := HT5.out.setRow (by have := HN.out; omega) _
          have HR6 : Hid (PAt (w5.setRow bs (pw (dbl4 acc))) w.heap.size e0) := HR5.out.other (by have := HN.out; omega) _
          have HB6 : Hid (Below w.heap.size w (w5.setRow bs (pw (dbl4 acc)))) := HB5.out.trans ((below_setRow _ _ _).mono (by have := HN.out; omega))
          clear HS HT HR HB HX HS5 HT5 HR5 HB5
          simp only [Act.put]
          go_wp2_with fail
          go_loopw [40] (fun jv wq => ∃ j : Nat, j ≤ k ∧ jv = .int .i64 (j : Int) ∧ PAt wq bs (ein T i (dbl4 acc) j) ∧ TTAt wq (w.heap.size + 1) k (FT T k) ∧ PAt wq w.heap.size e0 ∧ Below w.heap.size w wq) (fun jv _ => k - (intOf jv).toNat)
          case atStart => exact ⟨0, by omega, rfl, HS6.out, HT6.out, HR6.out, HB6.out⟩
          case round =>
            clear HS6 HT6 HR6 HB6
            rename World => wd
            obtain ⟨j, hj, rfl, hs, ht, hr, hb⟩ := hrel
            have HS : Hid (PAt wd bs (ein T i (dbl4 acc) j)) := hs
            have HT : Hid (TTAt wd (w.heap.size + 1) k (FT T k)) := ht
            have HR : Hid (PAt wd w.heap.size e0) := hr
            have HB : Hid (Below w.heap.size w wd) := hb
            clear hs ht hr hb
            by_cases hjk : j < k
            · have HTj : Hid (wd.rangeAt tb (j * 20) (tw (T j)).toList) := HTT.out wd HB.out j hjk
              have HX : Hid (Below wd.heap.size wd ((wd.alloc (.cells tmZero 97)).setRow wd.heap.size (tw (T j)))) := ((Below.refl _ _).alloc (Nat.le_refl _) _).trans (below_setRow _ _ _)
              have HC : Hid (((wd.alloc (.cells tmZero 97)).setRow wd.heap.size (tw (T j))).cell? ⟨wd.heap.size, i / 16, none⟩ = some (.int .u64 (un (qw (T j).1 (i / 16))))) := (MAt.setRow (alloc_at _ _ _ rfl) (T j)).word (i / 16) (by omega)
              go_wp2_with (first | refine load_m rfl _ rfl tb (j * 20) (T j) rfl HTj.out ?_ | refine store_m rfl _ _ rfl wd.heap.size (T j) rfl rfl (heap_alloc_new _ _) ?_ | refine load_u rfl _ rfl wd.heap.size (i / 16) (.int .u64 (un (qw (T j).1 (i / 16)))) rfl HC.out ?_)
              have HSe : Hid (PAt ((wd.alloc (.cells tmZero 97)).setRow wd.heap.size (tw (T j))) bs (ein T i (dbl4 acc) j)) := HS.out.below HX.out HS.out.lt
              have HTe : Hid (TTAt ((wd.alloc (.cells tmZero 97)).setRow wd.heap.size (tw (T j))) (w.heap.size + 1) k (FT T k)) := HT.out.below HX.out HT.out.lt
              have HRe : Hid (PAt ((wd.alloc (.cells tmZero 97)).setRow wd.heap.size (tw (T j))) w.heap.size e0) := HR.out.below HX.out HR.out.lt
              have HBe : Hid (Below w.heap.size w ((wd.alloc (.cells tmZero 97)).setRow wd.heap.size (tw (T j)))) := HB.out.trans (HX.out.mono HB.out.size)
              have HPe : Hid (((wd.alloc (.cells tmZero 97)).setRow wd.heap.size (tw (T j))).rangeAt (w.heap.size + 1) (0 + j * 256 + (dgW (T j).1 i).toNat * 16) (pw (Ed.emul (T j).2 (dgW (T j).1 i).toNat)).toList) := by
                have h := HTe.out.range j (dgW (T j).1 i).toNat hjk (dg_lt _ _)
                rw [show FT T k j = Ed.emul (T j).2 from if_pos hjk, show 256 * j + 16 * (dgW (T j).1 i).toNat = 0 + j * 256 + (dgW (T j).1 i).toNat * 16 by omega] at h
                exact h
              refine Qt.wp_tail 8 (by kernel_rfl) (by kernel_rfl) ?_
              refine y_pt rfl _ rfl bs (ein T i (dbl4 acc) j) rfl HSe.out ?_
              refine Qt.y_val rfl (.slice (some ⟨w.heap.size + 1, 0, none⟩) k k) (fun _ _ => by kernel_rfl) ?_
              refine Qt.y_val rfl (.int .i64 (j : Int)) (fun _ _ => by kernel_rfl) ?_
              refine Qt.y_val rfl (.int .u64 (un (dgW (T j).1 i))) (fun _ _ => by kernel_rfl) ?_
              simp only [Act.put, List.setIfInBounds_toArray, List.set_cons_zero, List.set_cons_succ]
              refine Qt.y_idxs rfl 115 _ _ rfl 116 256 Tryd.underlying115 (by kernel_rfl) (by kernel_rfl) (w.heap.size + 1) 0 k k j .i64 rfl rfl hjk ?_
              refine Qt.y_idx rfl 116 _ _ rfl 91 16 16 Tryd.underlying116 (by kernel_rfl) (by kernel_rfl) (w.heap.size + 1) (0 + j * 256) (dgW (T j).1 i).toNat .u64 rfl rfl (dg_lt _ _) ?_
              simp only [Act.put, List.setIfInBounds_toArray, List.set_cons_zero, List.set_cons_succ]
              refine y_pmid rfl _ rfl (w.heap.size + 1) (0 + j * 256 + (dgW (T j).1 i).toNat * 16) (Ed.emul (T j).2 (dgW (T j).1 i).toNat) rfl HTe.out.lt HPe.out ?_
              refine Qt.y_call rfl 81 #[.agg (pw (ein T i (dbl4 acc) j)), .agg (pw (Ed.emul (T j).2 (dgW (T j).1 i).toNat))] (.agg (pw (ein T i (dbl4 acc) (j + 1)))) (fun _ => by kernel_rfl) (fun w' _ => add_p (ein T i (dbl4 acc) j) (Ed.emul (T j).2 (dgW (T j).1 i).toNat) w') ?_
              simp only [Act.put, List.setIfInBounds_toArray, List.set_cons_zero, List.set_cons_succ]
              refine Qt.y_nil ?_
              intro wf hbf
              have HXf : Hid (Below ((wd.alloc (.cells tmZero 97)).setRow wd.heap.size (tw (T j))).heap.size ((wd.alloc (.cells tmZero 97)).setRow wd.heap.size (tw (T j))) wf) := hbf
              clear hbf
              have HSf : Hid (PAt wf bs (ein T i (dbl4 acc) j)) := HSe.out.below HXf.out HSe.out.lt
              have HTf : Hid (TTAt wf (w.heap.size + 1) k (FT T k)) := HTe.out.below HXf.out HTe.out.lt
              have HRf : Hid (PAt wf w.heap.size e0) := HRe.out.below HXf.out HRe.out.lt
              have HBf : Hid (Below w.heap.size w wf) := HBe.out.trans (HXf.out.mono HBe.out.size)
              clear HX HC HSe HTe HRe HBe HPe HXf
              refine store_p rfl _ _ rfl bs (ein T i (dbl4 acc) (j + 1)) (ein T i (dbl4 acc) j) rfl rfl HSf.out ?_
              simp only [Act.put]
              go_wp2_with fail
              refine ⟨⟨j + 1, by omega, by go_num, HSf.out.setRow _, HTf.out.setRow (by have := HN.out; omega) _, HRf.out.other (by have := HN.out; omega) _, HBf.out.trans ((below_setRow _ _ _).mono (by have := HN.out; omega))⟩, by simp [intOf]; omega⟩
            · obtain rfl : j = k := by omega
              go_wp2_with fail
              have he : ein T i (dbl4 acc) j = esum T j (64 - i) := by
                rw [Hacc.out, show 64 - i = (64 - (i + 1)) + 1 by omega]
                show _ = ein T (63 - (64 - (i + 1))) (dbl4 (esum T j (64 - (i + 1)))) j
                rw [show 63 - (64 - (i + 1)) = i by omega]
              exact ⟨⟨i, by omega, rfl, by rw [← he]; exact HS.out, HT.out, HR.out, HB.out⟩, by simp [intOf]⟩
end Cw
end Go.Proofs.YtbojijefenfbgaaDoor
