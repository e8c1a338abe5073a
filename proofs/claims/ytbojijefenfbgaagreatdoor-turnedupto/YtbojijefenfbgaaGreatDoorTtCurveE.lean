/- Walks of the program's curve: Sum. Walks of the program's curve: Sum. Walks of the program's wide numbers: Sub, Add, Below, Less. Walks of the program's field: FromNumber, Number, Odd. -/
import Derived.Test.YtbojijefenfbgaaGreatDoorTtCurveB
set_option maxRecDepth 100000
namespace Go.Proofs.YtbojijefenfbgaaGreatDoor
open Go.RowKit
namespace Own
theorem y1y {P : Program} (w : World) {ops : Array Oper} {rest : List Oper} {o : Oper} {a : Act} {Q : Exit → Act → World → Prop}
  (hg : o.guard = none) (l c : Operand) (t : TypeId) (hop : o.op = Op.makeSlice t l c)
  (e : TypeId) (z : Value) (sz by1 : Nat) (h1 : P.underlying t = some (.slice e)) (h2 : (P.info? e).map (fun i => (i.zero, i.size, i.bytes)) = some (some z, sz, by1))
  (kl kc : IntKind) (n : Nat) (hl : a.eval l = .int kl (n : Int)) (hc : a.eval c = .int kc (n : Int)) (b2 : by1 * n ≤ 281474976710656) (b3 : n ≤ 281474976710656)
  (hK : wpList P ops Q rest (a.put o.dst (.slice (some ⟨w.heap.size, 0, none⟩) n n)) (w.alloc (.cells (madeCells z.cells (n * sz)) e))) :
  wpList P ops Q (o :: rest) a w := by
 refine wpList_plain hg fun K hK' => ?_
 obtain ⟨i, hi, hz0, hz1, hz2⟩ := info_parts h2
 have hrun := run_make (P := P) w t e i z h1 hi hz0 kl kc (n : Int) (n : Int) (by omega) (by omega) (by rw [hz2]; omega) (by omega)
 rw [hz1] at hrun
 simp only [Int.toNat_natCast] at hrun
 unfold Oper.wp
 simp [execOp, hop, hl, hc, hrun, Result.andThen]
 exact hK' _ _ hK
end Own
namespace Cw
open Fw
noncomputable def ttc (F : Nat → Nat → Ed.E) (j : Nat) : Value := tc (F (j / 256)) (j % 256)
def z7s (w : World) (b m : Nat) (F : Nat → Nat → Ed.E) : Prop := w.heap[b]? = some (.cells (Own.z0f (m * 256) (ttc F)) 276 (0, 0))
theorem x4z : Tryz.zeroCells276 = Own.z0f 256 (fun _ => .int .u64 0) := by kernel_rfl
theorem q9o (m : Nat) : madeCells (Value.agg Tryz.zeroCells276).cells (m * 256) = Own.z0f (m * 256) (ttc (fun _ _ => e0)) := by
 rw [show (Value.agg Tryz.zeroCells276).cells = Tryz.zeroCells276 from rfl, x4z]
 apply Array.ext_getElem?
 intro i
 by_cases h : i < m * 256
 ·rw [Own.z1f h]
  have hz : ttc (fun _ _ => e0) i = .int .u64 0 := k6c (i % 256 % 16) (by omega)
  rw [hz]
  have hm : (Own.z0f 256 (fun _ => Value.int .u64 0))[i % 256]? = some (.int .u64 0) := Own.z1f (by omega)
  simp [madeCells, h, Own.z0p]
  rw [getElem!_def, hm]
 ·rw [Own.z1w (by omega)]
  simp [madeCells, h]
end Cw
namespace Qt
theorem k7l {P : Program} {W : World} {K : Act → Prop} {l : List Oper} {o : Oper} {a : Act} (hg : o.guard = none) (t : TypeId) (x ix : Operand) (ho : o.op = .indexAddr t x ix) (e : TypeId) (sz : Nat) (hu : P.underlying t = some (.slice e)) (hs : P.cellsOf e = sz) (hi0 : (P.info? e).isSome = true) (b off len cap n : Nat) (k : IntKind)
  (hx : a.eval x = .slice (some ⟨b, off, none⟩) len cap) (hi : a.eval ix = .int k (n : Int)) (hn : n < len) (h : Lex P W K l (a.put o.dst (.pointer (some ⟨b, off + n * sz, none⟩)))) : Lex P W K (o :: l) a := by
 refine z0b hg _ (fun w' _ => ?_) h
 obtain ⟨i, hi1⟩ := Option.isSome_iff_exists.1 hi0
 have h1 : (underlying t).run P w' = .ok (.slice e) w' := run_underlying hu w'
 have h2 : (sizeOf e).run P w' = .ok sz w' := by rw [← hs]; exact run_sizeOf w' hi1
 have h3 : (Instr.indexAt t (.slice (some ⟨b, off, none⟩) len cap) (.int k (n : Int))).run P w' = .ok (.pointer (some ⟨b, off + n * sz, none⟩)) w' := by
  simp [Instr.indexAt, asIntOf, h1, h2, hn, Addr.add_mid]
 unfold execOp
 simp only [ho, hx, hi, Sem.run_bind, Sem.run_pure, Result.andThen_ok, h3]
theorem q0b {P : Program} {Q : Exit → Act → World → Prop} {a : Act} {w : World} {l : List Oper} (N : Nat) (_ : l.length = N) (n : Nat) (h : Lex P w (fun a' => ∀ w', Below w.heap.size w w' → wpList P l.toArray Q (l.drop n) a' w') (l.take n) a) : wpList P l.toArray Q l a w := y7y n h
end Qt
namespace Cw
open Fw
theorem x1j (w : World) (b off : Nat) (v : Value) (h : w.cell? ⟨b, off, none⟩ = some v) : (loadVar 159 ⟨b, off, none⟩).run Tryz.prog w = .ok v w := by
 have h1 := run_underlying (P := Tryz.prog) Tryz.underlying159 w
 simp [loadVar, go_sem, h]
theorem x0f {W : World} {K : Act → Prop} {l : List Oper} {o : Oper} {a : Act} (hg : o.guard = none) (x : Operand) (ho : o.op = .load 159 x) (b off : Nat) (v : Value) (hx : a.eval x = .pointer (some ⟨b, off, none⟩)) (hb : b < W.heap.size) (hc : W.cell? ⟨b, off, none⟩ = some v)
  (h : Qt.Lex Tryz.prog W K l (a.put o.dst v)) : Qt.Lex Tryz.prog W K (o :: l) a := by
 refine Qt.z0b hg v (fun w' hw' => ?_) h
 have h1 := x1j w' b off v (by rw [hw'.cell (by exact hb)]; exact hc)
 unfold execOp
 simp only [ho, hx, Instr.loadAt, Instr.sureAddr, Sem.run_bind, Sem.run_pure, Result.andThen_ok, h1]
noncomputable def tw (t : Q × Ed.E) : Array Value := t.1.cells ++ pw t.2
theorem y1u (t : Q × Ed.E) : (tw t).size = 20 := by unfold tw; rw [Array.size_append, z1z]; rfl
theorem k7a (t : Q × Ed.E) : (tw t).all (·.oneCell') = true := by
 unfold tw
 rw [Array.all_append, y7e, Q.cells_one]; rfl
def z3b : Array Value := #[.int .u64 0, .int .u64 0, .int .u64 0, .int .u64 0, .int .u64 0, .int .u64 0, .int .u64 0, .int .u64 0, .int .u64 0, .int .u64 0, .int .u64 0, .int .u64 0, .int .u64 0, .int .u64 0, .int .u64 0, .int .u64 0, .int .u64 0, .int .u64 0, .int .u64 0, .int .u64 0]
def MAt (w : World) (b : Nat) (t : Q × Ed.E) : Prop := w.heap[b]? = some (.cells (tw t) 192 (0, 0))
theorem MAt.x8k {w : World} {b : Nat} {t : Q × Ed.E} (h : MAt w b t) : w.rangeAt b 4 (pw t.2).toList := fun j v hv => by
 rw [cell_of_row w b (4 + j) _ _ _ h]
 unfold tw
 rw [Array.getElem?_append_right (by show 4 ≤ 4 + j; omega)]
 rw [show 4 + j - t.1.cells.size = j from by show 4 + j - 4 = j; omega]
 simpa using hv
def qw (q : Q) (k : Nat) : BitVec 64 := if k = 0 then q.a0 else if k = 1 then q.a1 else if k = 2 then q.a2 else q.a3
theorem MAt.word {w : World} {b : Nat} {t : Q × Ed.E} (h : MAt w b t) (k : Nat) (hk : k < 4) : w.cell? ⟨b, k, none⟩ = some (.int .u64 (un (qw t.1 k))) := by
 rw [cell_of_row w b k _ _ _ h]
 unfold tw
 rw [Array.getElem?_append_left (by show k < 4; exact hk)]
 rcases k with _ | _ | _ | _ | k <;> first | rfl | omega
theorem MAt.setRow {w : World} {b : Nat} {o : Array Value} (h : w.heap[b]? = some (.cells o 192 (0, 0))) (t : Q × Ed.E) : MAt (w.setRow b (tw t)) b t := setRow_heap _ _ _ _ _ _ h
theorem q5x {ops : Array Oper} {rest : List Oper} {o : Oper} {a : Act} {w : World} {Q : Exit → Act → World → Prop} (hg : o.guard = none) (x : Operand) (ho : o.op = .load 192 x) (b off : Nat) (t : Fw.Q × Ed.E) (hx : a.eval x = .pointer (some ⟨b, off, none⟩)) (hr : w.rangeAt b off (tw t).toList)
  (h : wpList Tryz.prog ops Q rest (a.put o.dst (.agg (tw t))) w) : wpList Tryz.prog ops Q (o :: rest) a w :=
 wpList_load_mid hg 192 x ho b off hx (tw t).toList _ hr Tryz.underlying192 rfl (by rw [Array.length_toList, y1u]; kernel_rfl) h
theorem x9l {ops : Array Oper} {rest : List Oper} {o : Oper} {a : Act} {w : World} {Q : Exit → Act → World → Prop} (hg : o.guard = none) (x y : Operand) (ho : o.op = .store 192 x y) (b : Nat) (t : Fw.Q × Ed.E) (hx : a.eval x = .pointer (some ⟨b, 0, none⟩)) (hy : a.eval y = .agg (tw t)) (hb : w.heap[b]? = some (.cells z3b 192 (0, 0)))
  (h : wpList Tryz.prog ops Q rest (a.put o.dst undef) (w.setRow b (tw t))) : wpList Tryz.prog ops Q (o :: rest) a w :=
 wpList_store_row hg 192 x y ho b (tw t) hx hy 192 z3b hb (by rw [y1u]; kernel_rfl) ((y1u t).symm ▸ rfl) (k7a t) h
theorem q9m {ops : Array Oper} {rest : List Oper} {o : Oper} {a : Act} {w : World} {Q : Exit → Act → World → Prop} (hg : o.guard = none) (x : Operand) (ho : o.op = .load 163 x) (b off : Nat) (v : Ed.E) (hx : a.eval x = .pointer (some ⟨b, off, none⟩)) (hr : w.rangeAt b off (pw v).toList)
  (h : wpList Tryz.prog ops Q rest (a.put o.dst (.agg (pw v))) w) : wpList Tryz.prog ops Q (o :: rest) a w :=
 wpList_load_mid hg 163 x ho b off hx (pw v).toList _ hr Tryz.underlying163 rfl (by rw [Array.length_toList, z1z]; kernel_rfl) h
theorem z7s.lt {w : World} {b m : Nat} {F : Nat → Nat → Ed.E} (h : z7s w b m F) : b < w.heap.size := (aL h)
theorem z7s.below {w w' : World} {b m : Nat} {F : Nat → Nat → Ed.E} (h : z7s w b m F) {k : Nat} (hb : Below k w w') (hk : b < k) : z7s w' b m F := (hb.block b hk).trans h
theorem z7s.range {w : World} {b m : Nat} {F : Nat → Nat → Ed.E} (h : z7s w b m F) (i j : Nat) (hi : i < m) (hj : j < 16) : w.rangeAt b (256 * i + 16 * j) (pw (F i j)).toList := fun n v hv => by
 have hn : n < 16 := by
  have := (lL hv)
  rw [Array.length_toList, z1z] at this
  exact this
 rw [Own.z0o h (256 * i + 16 * j + n) (by omega)]
 unfold ttc tc
 rw [show (256 * i + 16 * j + n) / 256 = i by omega, show (256 * i + 16 * j + n) % 256 / 16 = j by omega, show (256 * i + 16 * j + n) % 256 % 16 = n by omega]
 have h2 : (pw (F i j))[n]? = some v := by simpa using hv
 rw [h2]; rfl
theorem z7s.there {w : World} {b m : Nat} {F : Nat → Nat → Ed.E} (h : z7s w b m F) (i : Nat) (hi : i < m) : w.there b (256 * i) 256 := fun j hj =>
 ⟨by rw [Own.z0o h (256 * i + j) (by omega)]; rfl, Own.z1o h _⟩
theorem z7s.set {w : World} {b m : Nat} {F : Nat → Nat → Ed.E} (h : z7s w b m F) (i : Nat) (_hi : i < m) (f : Nat → Ed.E) : z7s (w.setCells b (256 * i) (tbl f).toList) b m (fun k => if k = i then f else F k) := by
 have h' : w.heap[b]? = some (.cells (Own.z0f (m * 256) (ttc F)) 276 (0, 0)) := h
 have h2 := y7n (tbl f).toList (256 * i) w (ttc F) h'
 show (w.setCells b (256 * i) (tbl f).toList).heap[b]? = some (.cells (Own.z0f (m * 256) (ttc (fun k => if k = i then f else F k))) 276 (0, 0))
 rw [h2]
 refine congrArg (fun c => some (Obj.cells c 276 (0, 0))) ?_
 refine Own.z0k fun j hj => ?_
 rw [Array.length_toList, z4r]
 unfold ttc
 by_cases hc : 256 * i ≤ j ∧ j < 256 * i + 256
 ·rw [if_pos hc]
  show _ = tc (if j / 256 = i then f else F (j / 256)) (j % 256)
  rw [if_pos (by omega), show j - 256 * i = j % 256 by omega]
  have hg : (tbl f)[j % 256]? = some (tc f (j % 256)) := by rw [z6o]; exact Own.z1f (by omega)
  simp [hg]
 ·rw [if_neg hc]
  show _ = tc (if j / 256 = i then f else F (j / 256)) (j % 256)
  rw [if_neg (by omega)]
theorem q4r {ops : Array Oper} {rest : List Oper} {o : Oper} {a : Act} {w : World} {Q : Exit → Act → World → Prop} (hg : o.guard = none) (x y : Operand) (ho : o.op = .store 276 x y) (b off : Nat) (f : Nat → Ed.E) (hx : a.eval x = .pointer (some ⟨b, off, none⟩)) (hy : a.eval y = .agg (tbl f)) (hb : w.there b off 256)
  (h : wpList Tryz.prog ops Q rest (a.put o.dst undef) (w.setCells b off (tbl f).toList)) : wpList Tryz.prog ops Q (o :: rest) a w :=
 wpList_store_mid hg 276 x y ho b off (tbl f) hx hy (by rw [z4r]; exact hb) (by rw [z4r]; kernel_rfl) (x9r f) h
end Cw
open Go.RowKit
namespace Cw
open Fw
def dgW (q : Q) (i : Nat) : BitVec 64 := qw q (i / 16) >>> (4 * (i % 16)) &&& 15#64
def ein (T : Nat → Q × Ed.E) (i : Nat) (acc : Ed.E) : Nat → Ed.E
 | 0 => acc
 | j + 1 => Ed.y8m (ein T i acc j) (Ed.y8n (T j).2 (dgW (T j).1 i).toNat)
def y2f (e : Ed.E) : Ed.E := Ed.z7x (Ed.z7x (Ed.z7x (Ed.z7x e)))
def y8q (T : Nat → Q × Ed.E) (m : Nat) : Nat → Ed.E
 | 0 => Ed.z7m
 | d + 1 => ein T (63 - d) (y2f (y8q T m d)) m
noncomputable def FT (T : Nat → Q × Ed.E) (k : Nat) : Nat → Nat → Ed.E := fun j => if j < k then Ed.y8n (T j).2 else fun _ => e0
theorem q6w (T : Nat → Q × Ed.E) (k : Nat) : (fun j => if j = k then Ed.y8n (T k).2 else FT T k j) = FT T (k + 1) := by
 funext j
 unfold FT
 by_cases h : j = k
 ·subst h; rw [if_pos rfl, if_pos (by omega)]
 ·rw [if_neg h]
  by_cases h2 : j < k
  ·rw [if_pos h2, if_pos (by omega)]
  ·rw [if_neg h2, if_neg (by omega)]
theorem q6x (T : Nat → Q × Ed.E) : FT T 0 = fun _ _ => e0 := by
 funext j
 unfold FT
 rw [if_neg (by omega)]
noncomputable abbrev S2 (w : World) (m : Nat) : World := (w.alloc (.cells z4q 163)).alloc (.cells (madeCells Tryz.zeroCells276 (m * 256)) 276)
theorem j1y (w : World) (m : Nat) : PAt (S2 w m) w.heap.size e0 := PAt.below (.zero (z0d w _ _ rfl)) ((Below.refl (w.heap.size + 1) _).alloc (by simp) _) (by omega)
theorem j1z (w : World) (m : Nat) : z7s (S2 w m) (w.heap.size + 1) m (fun _ _ => e0) := by
 unfold z7s
 rw [← q9o]
 exact z0d _ _ _ (by simp)
theorem j1x (w : World) (m : Nat) : Below w.heap.size w (S2 w m) := ((Below.refl _ _).alloc (Nat.le_refl _) _).alloc (by simp) _
theorem z7s.setRow {w : World} {b c m : Nat} {F : Nat → Nat → Ed.E} (h : z7s w b m F) (hne : b ≠ c) (cs : Array Value) : z7s (w.setRow c cs) b m F := by
 unfold z7s at *
 rw [← h]
 show (Array.modify _ _ _)[b]? = _
 rw [Array.getElem?_modify, if_neg (Ne.symm hne)]
theorem x7e {ops : Array Oper} {rest : List Oper} {oa os : Oper} {a : Act} {w : World} {Q : Exit → Act → World → Prop} {x y : Operand} (hga : oa.guard = none) (ha : oa.op = .alloc 163) (hgs : os.guard = none) (hs : os.op = .store 163 x y) (v : Ed.E)
  (hx : ∀ b, (a.put oa.dst (.pointer (some ⟨b, 0, none⟩))).eval x = .pointer (some ⟨b, 0, none⟩)) (hy : ∀ b, (a.put oa.dst (.pointer (some ⟨b, 0, none⟩))).eval y = .agg (pw v))
  (h : ∀ w2 b, w.heap.size ≤ b → PAt w2 b v → Below w.heap.size w w2 → wpList Tryz.prog ops Q rest ((a.put oa.dst (.pointer (some ⟨b, 0, none⟩))).put os.dst undef) w2) : wpList Tryz.prog ops Q (oa :: os :: rest) a w := by
 refine Own.z0t _ hga 163 ha z4q (by kernel_rfl) ?_
 have hz : PAt (w.alloc (.cells z4q 163)) w.heap.size e0 := .zero (z0d _ _ _ rfl)
 refine z2z hgs x y hs w.heap.size v e0 (hx _) (hy _) hz ?_
 exact h _ _ (Nat.le_refl _) (hz.setRow v) (((Below.refl _ _).alloc (Nat.le_refl _) _).trans (z0a _ _ _))
theorem x7i {ops : Array Oper} {rest : List Oper} {o : Oper} {a : Act} {w : World} {Q : Exit → Act → World → Prop} (hg : o.guard = none) (x : Operand) (ho : o.op = .load 159 x) (b off : Nat) (v : Value) (hx : a.eval x = .pointer (some ⟨b, off, none⟩)) (hc : w.cell? ⟨b, off, none⟩ = some v)
  (h : wpList Tryz.prog ops Q rest (a.put o.dst v) w) : wpList Tryz.prog ops Q (o :: rest) a w := by
 refine wpList_plain hg fun K hK => ?_
 unfold Oper.wp execOp
 simp only [ho, hx, Instr.loadAt, Instr.sureAddr, Sem.run_bind, Sem.run_pure, Result.andThen_ok, x1j w b off v hc]
 exact hK _ _ h
theorem k8j (x : BitVec 64) : bits .and .u64 (un x) 15 = un (x &&& 15#64) := UV.z4x x 15#64
theorem k3n (q : Q) (i : Nat) : (dgW q i).toNat < 16 := by
 unfold dgW
 rw [BitVec.toNat_and]
 exact Nat.lt_of_le_of_lt Nat.and_le_right (by decide)
attribute [local go_sem] k8j UV.z6q UV.z5u UV.z6r UV.z6s UV.z4x UV.y1w UV.z3z UV.z4m UV.z5v UV.z3n UV.z1c
set_option maxHeartbeats 2000000 in
theorem k6t (tb m : Nat) (hm : m ≤ 2) (T : Nat → Q × Ed.E) (w : World) (htb : tb < w.heap.size) (hT : ∀ j, j < m → w.rangeAt tb (j * 20) (tw (T j)).toList) :
  Calls Tryz.prog 110 #[.slice (some ⟨tb, 0, none⟩) m m] w fun e w' => e = .returned (.agg (pw (y8q T m 64))) ∧ Below w.heap.size w w' := by
 have HTB : Hid (tb < w.heap.size) := htb
 have HTT : Hid (∀ w', Below w.heap.size w w' → ∀ j, j < m → w'.rangeAt tb (j * 20) (tw (T j)).toList) := fun w' hw' j hj n v hv => by
  rw [hw'.cell (by exact htb)]; exact hT j hj n v hv
 clear htb hT
 go_enter Tryz.func110, Tryz.ntmps110
 go_wp2_with (refine Own.y1y _ rfl _ _ 275 rfl 276 (.agg Tryz.zeroCells276) 256 2048 Tryz.underlying275 (by kernel_rfl) .i64 .i64 m rfl rfl (by omega) (by omega) ?_)
 go_loopw [16] (fun i wq => ∃ k : Nat, k ≤ m ∧ i = .int .i64 (k : Int) ∧ z7s wq (w.heap.size + 1) m (FT T k) ∧ PAt wq w.heap.size e0 ∧ Below w.heap.size w wq) (fun i _ => m - (intOf i).toNat)
 case atStart => exact ⟨0, by omega, rfl, by rw [q6x]; exact j1z w m, j1y w m, j1x w m⟩
 case round =>
  rename World => wa
  obtain ⟨k, hk, rfl, ht, hr, hb⟩ := hrel
  have HT : Hid (z7s wa (w.heap.size + 1) m (FT T k)) := ht
  have HR : Hid (PAt wa w.heap.size e0) := hr
  have HB : Hid (Below w.heap.size w wa) := hb
  clear ht hr hb
  by_cases hkm : k < m
  ·have HTk : Hid (wa.rangeAt tb (k * 20) (tw (T k)).toList) := HTT.out wa HB.out k hkm
   have HM : Hid (MAt ((wa.alloc (.cells z3b 192)).setRow wa.heap.size (tw (T k))) wa.heap.size (T k)) := MAt.setRow (z0d _ _ _ rfl) (T k)
   have HX : Hid (Below wa.heap.size wa ((wa.alloc (.cells z3b 192)).setRow wa.heap.size (tw (T k)))) := ((Below.refl _ _).alloc (Nat.le_refl _) _).trans (z0a _ _ _)
   go_wp2_with (first | refine q5x rfl _ rfl tb (k * 20) (T k) rfl HTk.out ?_ | refine q9m rfl _ rfl wa.heap.size 4 (T k).2 rfl HM.out.x8k ?_ | refine x9l rfl _ _ rfl wa.heap.size (T k) rfl rfl (heap_alloc_new _ _) ?_)
   refine (k5q (T k).2 _).mono ?_
   rintro e w2 ⟨rfl, hb2⟩
   have HX2 : Hid (Below wa.heap.size wa w2) := HX.out.trans (hb2.mono HX.out.size)
   have HT2 : Hid (z7s w2 (w.heap.size + 1) m (FT T k)) := HT.out.below HX2.out HT.out.lt
   have HTh : Hid (w2.there (w.heap.size + 1) (k * 256) 256) := by
    have h := HT2.out.there k hkm
    rw [Nat.mul_comm] at h
    exact h
   clear hb2
   go_wp2_with (refine q4r rfl _ _ rfl (w.heap.size + 1) (k * 256) (Ed.y8n (T k).2) rfl rfl HTh.out ?_)
   refine ⟨⟨k + 1, by omega, by go_num, ?_, ?_, ?_⟩, by simp [intOf]; omega⟩
   ·have h := HT2.out.set k hkm (Ed.y8n (T k).2)
    rw [q6w, Nat.mul_comm] at h
    exact h
   ·exact (HR.out.below HX2.out HR.out.lt).setCells (by omega) _
   ·exact z4u (by omega) _ _ _ _ (HB.out.trans (HX2.out.mono HB.out.size))
  ·obtain rfl : k = m := by omega
   go_wp2_with fail
   refine (q6u _).mono ?_
   rintro e w2 ⟨rfl, hb2⟩
   have HX2 : Hid (Below wa.heap.size wa w2) := hb2
   clear hb2
   go_wp2_with (refine x7e rfl rfl rfl rfl Ed.z7m (fun _ => rfl) (fun _ => rfl) ?_)
   intro w3 bs hle hW hb3
   have HL : Hid (w2.heap.size ≤ bs) := hle
   have HX3 : Hid (Below w2.heap.size w2 w3) := hb3
   have HS3 : Hid (PAt w3 bs Ed.z7m) := hW
   have HT3 : Hid (z7s w3 (w.heap.size + 1) k (FT T k)) := (HT.out.below HX2.out HT.out.lt).below HX3.out (HT.out.below HX2.out HT.out.lt).lt
   have HR3 : Hid (PAt w3 w.heap.size e0) := (HR.out.below HX2.out HR.out.lt).below HX3.out (HR.out.below HX2.out HR.out.lt).lt
   have HB3 : Hid (Below w.heap.size w w3) := (HB.out.trans (HX2.out.mono HB.out.size)).trans (HX3.out.mono (Nat.le_trans HB.out.size HX2.out.size))
   have HN : Hid (w.heap.size + 1 < bs) := by
    have h1 := HT.out.lt
    have h2 := HX2.out.size
    have h3 := HL.out
    show _ < _
    omega
   clear hle hW hb3 HL HX3 HX2 HT HR HB
   go_wp2_with fail
   go_loopw [7] (fun i wq => ∃ n : Nat, n ≤ 64 ∧ i = .int .i64 ((n : Int) - 1) ∧ PAt wq bs (y8q T k (64 - n)) ∧ z7s wq (w.heap.size + 1) k (FT T k) ∧ PAt wq w.heap.size e0 ∧ Below w.heap.size w wq) (fun i _ => (intOf i + 1).toNat)
   case atStart => exact ⟨64, by omega, rfl, HS3.out, HT3.out, HR3.out, HB3.out⟩
   case round =>
    clear HS3 HT3 HR3 HB3
    rename World => wc
    obtain ⟨n, hn, rfl, hs, ht, hr, hb⟩ := hrel
    have HS : Hid (PAt wc bs (y8q T k (64 - n))) := hs
    have HT : Hid (z7s wc (w.heap.size + 1) k (FT T k)) := ht
    have HR : Hid (PAt wc w.heap.size e0) := hr
    have HB : Hid (Below w.heap.size w wc) := hb
    clear hs ht hr hb
    rcases n with _ | i
    ·go_wp2_with (first | refine q5y rfl _ rfl bs (y8q T k 64) rfl HS.out ?_ | refine z2z rfl _ _ rfl w.heap.size (y8q T k 64) e0 rfl rfl HR.out ?_)
     exact y7m Tryz.results110 rfl w.heap.size (y8q T k 64) rfl (HR.out.setRow _) ⟨rfl, HB.out.trans ((z0a _ _ _).mono (Nat.le_refl _))⟩
    ·have ei : (((i + 1 : Nat) : Int) - 1) = (i : Int) := by omega
     rw [ei]
     have hi : i < 64 := by omega
     obtain ⟨acc, hacc⟩ : ∃ acc, acc = y8q T k (64 - (i + 1)) := ⟨_, rfl⟩
     rw [← hacc] at HS
     have Hacc : Hid (acc = y8q T k (64 - (i + 1))) := hacc
     clear hacc ei
     go_wp2_with (refine Qt.q0b 6 rfl 5 ?_)
     refine k7x rfl _ rfl bs acc rfl HS.out ?_
     refine Qt.z0e rfl 175 #[.agg (pw acc)] (.agg (pw (Ed.z7x acc))) (fun _ => by kernel_rfl) (fun w' _ => q1i acc w') ?_
     refine Qt.z0e rfl 175 #[.agg (pw (Ed.z7x acc))] (.agg (pw (Ed.z7x (Ed.z7x acc)))) (fun _ => by kernel_rfl) (fun w' _ => q1i (Ed.z7x acc) w') ?_
     refine Qt.z0e rfl 175 #[.agg (pw (Ed.z7x (Ed.z7x acc)))] (.agg (pw (Ed.z7x (Ed.z7x (Ed.z7x acc))))) (fun _ => by kernel_rfl) (fun w' _ => q1i (Ed.z7x (Ed.z7x acc)) w') ?_
     refine Qt.z0e rfl 175 #[.agg (pw (Ed.z7x (Ed.z7x (Ed.z7x acc))))] (.agg (pw (y2f acc))) (fun _ => by kernel_rfl) (fun w' _ => q1i (Ed.z7x (Ed.z7x (Ed.z7x acc))) w') ?_
     simp only [zD]
     refine Qt.z1a ?_
     intro w5 hb5
     have HX : Hid (Below wc.heap.size wc w5) := hb5
     clear hb5
     have HS5 : Hid (PAt w5 bs acc) := HS.out.below HX.out HS.out.lt
     have HT5 : Hid (z7s w5 (w.heap.size + 1) k (FT T k)) := HT.out.below HX.out HT.out.lt
     have HR5 : Hid (PAt w5 w.heap.size e0) := HR.out.below HX.out HR.out.lt
     have HB5 : Hid (Below w.heap.size w w5) := HB.out.trans (HX.out.mono HB.out.size)
     refine z2z rfl _ _ rfl bs (y2f acc) acc rfl rfl HS5.out ?_
     have HS6 : Hid (PAt (w5.setRow bs (pw (y2f acc))) bs (y2f acc)) := HS5.out.setRow _
     have HT6 : Hid (z7s (w5.setRow bs (pw (y2f acc))) (w.heap.size + 1) k (FT T k)) := HT5.out.setRow (by have := HN.out; omega) _
     have HR6 : Hid (PAt (w5.setRow bs (pw (y2f acc))) w.heap.size e0) := HR5.out.other (by have := HN.out; omega) _
     have HB6 : Hid (Below w.heap.size w (w5.setRow bs (pw (y2f acc)))) := HB5.out.trans ((z0a _ _ _).mono (by have := HN.out; omega))
     clear HS HT HR HB HX HS5 HT5 HR5 HB5
     simp only [Act.put]
     go_wp2_with fail
     go_loopw [40] (fun jv wq => ∃ j : Nat, j ≤ k ∧ jv = .int .i64 (j : Int) ∧ PAt wq bs (ein T i (y2f acc) j) ∧ z7s wq (w.heap.size + 1) k (FT T k) ∧ PAt wq w.heap.size e0 ∧ Below w.heap.size w wq) (fun jv _ => k - (intOf jv).toNat)
     case atStart => exact ⟨0, by omega, rfl, HS6.out, HT6.out, HR6.out, HB6.out⟩
     case round =>
      clear HS6 HT6 HR6 HB6
      rename World => wd
      obtain ⟨j, hj, rfl, hs, ht, hr, hb⟩ := hrel
      have HS : Hid (PAt wd bs (ein T i (y2f acc) j)) := hs
      have HT : Hid (z7s wd (w.heap.size + 1) k (FT T k)) := ht
      have HR : Hid (PAt wd w.heap.size e0) := hr
      have HB : Hid (Below w.heap.size w wd) := hb
      clear hs ht hr hb
      by_cases hjk : j < k
      ·have HTj : Hid (wd.rangeAt tb (j * 20) (tw (T j)).toList) := HTT.out wd HB.out j hjk
       have HX : Hid (Below wd.heap.size wd ((wd.alloc (.cells z3b 192)).setRow wd.heap.size (tw (T j)))) := ((Below.refl _ _).alloc (Nat.le_refl _) _).trans (z0a _ _ _)
       have HC : Hid (((wd.alloc (.cells z3b 192)).setRow wd.heap.size (tw (T j))).cell? ⟨wd.heap.size, i / 16, none⟩ = some (.int .u64 (un (qw (T j).1 (i / 16))))) := (MAt.setRow (z0d _ _ _ rfl) (T j)).word (i / 16) (by omega)
       go_wp2_with (first | refine q5x rfl _ rfl tb (j * 20) (T j) rfl HTj.out ?_ | refine x9l rfl _ _ rfl wd.heap.size (T j) rfl rfl (heap_alloc_new _ _) ?_ | refine x7i rfl _ rfl wd.heap.size (i / 16) (.int .u64 (un (qw (T j).1 (i / 16)))) rfl HC.out ?_)
       have HSe : Hid (PAt ((wd.alloc (.cells z3b 192)).setRow wd.heap.size (tw (T j))) bs (ein T i (y2f acc) j)) := HS.out.below HX.out HS.out.lt
       have HTe : Hid (z7s ((wd.alloc (.cells z3b 192)).setRow wd.heap.size (tw (T j))) (w.heap.size + 1) k (FT T k)) := HT.out.below HX.out HT.out.lt
       have HRe : Hid (PAt ((wd.alloc (.cells z3b 192)).setRow wd.heap.size (tw (T j))) w.heap.size e0) := HR.out.below HX.out HR.out.lt
       have HBe : Hid (Below w.heap.size w ((wd.alloc (.cells z3b 192)).setRow wd.heap.size (tw (T j)))) := HB.out.trans (HX.out.mono HB.out.size)
       have HPe : Hid (((wd.alloc (.cells z3b 192)).setRow wd.heap.size (tw (T j))).rangeAt (w.heap.size + 1) (0 + j * 256 + (dgW (T j).1 i).toNat * 16) (pw (Ed.y8n (T j).2 (dgW (T j).1 i).toNat)).toList) := by
        have h := HTe.out.range j (dgW (T j).1 i).toNat hjk (k3n _ _)
        rw [show FT T k j = Ed.y8n (T j).2 from if_pos hjk, show 256 * j + 16 * (dgW (T j).1 i).toNat = 0 + j * 256 + (dgW (T j).1 i).toNat * 16 by omega] at h
        exact h
       refine Qt.z0q 8 (by kernel_rfl) (by kernel_rfl) ?_
       refine k7x rfl _ rfl bs (ein T i (y2f acc) j) rfl HSe.out ?_
       refine Qt.z0b rfl (.slice (some ⟨w.heap.size + 1, 0, none⟩) k k) (fun _ _ => by kernel_rfl) ?_
       refine Qt.z0b rfl (.int .i64 (j : Int)) (fun _ _ => by kernel_rfl) ?_
       refine Qt.z0b rfl (.int .u64 (un (dgW (T j).1 i))) (fun _ _ => by kernel_rfl) ?_
       simp only [zD]
       refine Qt.k7l rfl 275 _ _ rfl 276 256 Tryz.underlying275 (by kernel_rfl) (by kernel_rfl) (w.heap.size + 1) 0 k k j .i64 rfl rfl hjk ?_
       refine Qt.z9y rfl 276 _ _ rfl 163 16 16 Tryz.underlying276 (by kernel_rfl) (by kernel_rfl) (w.heap.size + 1) (0 + j * 256) (dgW (T j).1 i).toNat .u64 rfl rfl (k3n _ _) ?_
       simp only [zD]
       refine q6t rfl _ rfl (w.heap.size + 1) (0 + j * 256 + (dgW (T j).1 i).toNat * 16) (Ed.y8n (T j).2 (dgW (T j).1 i).toNat) rfl HTe.out.lt HPe.out ?_
       refine Qt.z0e rfl 176 #[.agg (pw (ein T i (y2f acc) j)), .agg (pw (Ed.y8n (T j).2 (dgW (T j).1 i).toNat))] (.agg (pw (ein T i (y2f acc) (j + 1)))) (fun _ => by kernel_rfl) (fun w' _ => k2x (ein T i (y2f acc) j) (Ed.y8n (T j).2 (dgW (T j).1 i).toNat) w') ?_
       simp only [zD]
       refine Qt.z1a ?_
       intro wf hbf
       have HXf : Hid (Below ((wd.alloc (.cells z3b 192)).setRow wd.heap.size (tw (T j))).heap.size ((wd.alloc (.cells z3b 192)).setRow wd.heap.size (tw (T j))) wf) := hbf
       clear hbf
       have HSf : Hid (PAt wf bs (ein T i (y2f acc) j)) := HSe.out.below HXf.out HSe.out.lt
       have HTf : Hid (z7s wf (w.heap.size + 1) k (FT T k)) := HTe.out.below HXf.out HTe.out.lt
       have HRf : Hid (PAt wf w.heap.size e0) := HRe.out.below HXf.out HRe.out.lt
       have HBf : Hid (Below w.heap.size w wf) := HBe.out.trans (HXf.out.mono HBe.out.size)
       clear HX HC HSe HTe HRe HBe HPe HXf
       refine z2z rfl _ _ rfl bs (ein T i (y2f acc) (j + 1)) (ein T i (y2f acc) j) rfl rfl HSf.out ?_
       simp only [Act.put]
       go_wp2_with fail
       refine ⟨⟨j + 1, by omega, by go_num, HSf.out.setRow _, HTf.out.setRow (by have := HN.out; omega) _, HRf.out.other (by have := HN.out; omega) _, HBf.out.trans ((z0a _ _ _).mono (by have := HN.out; omega))⟩, by simp [intOf]; omega⟩
      ·obtain rfl : j = k := by omega
       go_wp2_with fail
       have he : ein T i (y2f acc) j = y8q T j (64 - i) := by
        rw [Hacc.out, show 64 - i = (64 - (i + 1)) + 1 by omega]
        show _ = ein T (63 - (64 - (i + 1))) (y2f (y8q T j (64 - (i + 1)))) j
        rw [show 63 - (64 - (i + 1)) = i by omega]
       exact ⟨⟨i, by omega, rfl, by rw [← he]; exact HS.out, HT.out, HR.out, HB.out⟩, by simp [intOf]⟩
end Cw
open Go.RowKit
namespace Ww
open Fw Bt
attribute [local go_sem] z2c z3k z3j z2y z3m
attribute [local go_sem] UV.z6q UV.z5u UV.z6r UV.z6s UV.z4x UV.y1w UV.z3z UV.z4m UV.z5v UV.z3n UV.z1c z2x z3l
def y5l (a b : Q) : Q := ⟨d0 a b, d1 a b, d2 a b, d3 a b⟩
def k4 (a b : Q) : Bool := carry a.a3 b.a3 (k3 a b)
theorem x2m (a b : Q) : (y5l a b).num + b.num = a.num + 115792089237316195423570985008687907853269984665640564039457584007913129639936 * (bv (m4 a b)).toNat := by
 have v0 : (d0 a b).toNat + b.a0.toNat + 0 = a.a0.toNat + 18446744073709551616 * (bv (m1 a b)).toNat := z3e a.a0 b.a0 false
 have v1 : (d1 a b).toNat + b.a1.toNat + (bv (m1 a b)).toNat = a.a1.toNat + 18446744073709551616 * (bv (m2 a b)).toNat := z3e a.a1 b.a1 (m1 a b)
 have v2 : (d2 a b).toNat + b.a2.toNat + (bv (m2 a b)).toNat = a.a2.toNat + 18446744073709551616 * (bv (m3 a b)).toNat := z3e a.a2 b.a2 (m2 a b)
 have v3 : (d3 a b).toNat + b.a3.toNat + (bv (m3 a b)).toNat = a.a3.toNat + 18446744073709551616 * (bv (m4 a b)).toNat := z3e a.a3 b.a3 (m3 a b)
 exact y1t _ _ _ _ _ _ _ _ _ _ _ _ _ _ _ _ _ v0 v1 v2 v3
theorem x0j (a b : Q) : (x5i a b).num + 115792089237316195423570985008687907853269984665640564039457584007913129639936 * (bv (k4 a b)).toNat = a.num + b.num := by
 have v0 : (a.a0 + b.a0 + bv false).toNat + 18446744073709551616 * (bv (k1 a b)).toNat = a.a0.toNat + b.a0.toNat + 0 := z0x a.a0 b.a0 false
 have v1 : (a.a1 + b.a1 + bv (k1 a b)).toNat + 18446744073709551616 * (bv (k2 a b)).toNat = a.a1.toNat + b.a1.toNat + (bv (k1 a b)).toNat := z0x a.a1 b.a1 (k1 a b)
 have v2 : (a.a2 + b.a2 + bv (k2 a b)).toNat + 18446744073709551616 * (bv (k3 a b)).toNat = a.a2.toNat + b.a2.toNat + (bv (k2 a b)).toNat := z0x a.a2 b.a2 (k2 a b)
 have v3 : (a.a3 + b.a3 + bv (k3 a b)).toNat + 18446744073709551616 * (bv (k4 a b)).toNat = a.a3.toNat + b.a3.toNat + (bv (k3 a b)).toNat := z0x a.a3 b.a3 (k3 a b)
 exact y5r _ _ _ _ _ _ _ _ _ _ _ _ _ _ _ _ _ v0 v1 v2 v3
theorem z8l (a b : Q) : m4 a b = decide (a.num < b.num) := by
 have h := x2m a b
 have h1 := z5r (y5l a b)
 have h2 := z5r a
 have h3 := z5r b
 cases hm : m4 a b with
 | true =>
  rw [hm, show (bv true).toNat = 1 from rfl] at h
  exact (decide_eq_true (by omega)).symm
 | false =>
  rw [hm, show (bv false).toNat = 0 from rfl] at h
  exact (decide_eq_false (by omega)).symm
theorem z8h {P : Program} {fn : Func} {p q : Tmp} {ty : TypeId} (h : fn.results = #[.cell p ty, .tmp q]) {post : Ending → World → Prop} {a : Act} {w : World} (hd : a.defers = []) (g : Nat) (t : TypeId) (cs : Array Value) (fr : Nat × Nat) (d : TypeDesc) (u : Value) (hp : a.tmps.getD p undef = .pointer (some ⟨g, 0, none⟩)) (hq : a.tmps.getD q undef = u) (hg : w.heap[g]? = some (.cells cs t fr))
  (hu : P.underlying ty = some d) (hr : (match d with | .struct _ | .array _ _ => true | _ => false) = true) (hi : (P.info? ty).map (·.size) = some cs.size) (hpost : post (.returned (.tuple #[.agg cs, u])) w) :
  bodyPost P fn post .ret a w := by
 refine bodyPost_ret (v := .tuple #[.agg cs, u]) ?_ hd hpost
 have hl := run_loadVar_row (P := P) w g t ty cs fr d hg hu hr hi
 have hp' : a.tmps[p]?.getD undef = .pointer (some ⟨g, 0, none⟩) := by simpa using hp
 have hq' : a.tmps[q]?.getD undef = u := by simpa using hq
 simp [results, h, hp', hq', asAddr, hl]
theorem k6x (w : World) (o1 o2 o3 o4 : Obj) : ((((w.alloc o1).alloc o2).alloc o3).alloc o4).heap[w.heap.size + 1 + 1]? = some o3 :=
 (((Below.refl (w.heap.size + 3) _).alloc (by simp) o4).block _ (by omega)).trans (z0d _ _ _ (by simp))
theorem q5o (w : World) (o1 o2 o3 o4 : Obj) : Below w.heap.size w ((((w.alloc o1).alloc o2).alloc o3).alloc o4) := ((((Below.refl _ _).alloc (Nat.le_refl _) _).alloc (by simp) _).alloc (by simp; omega) _).alloc (by simp; omega) _
set_option maxHeartbeats 2000000 in
theorem q6r (a b : Q) (w : World) : Calls Tryz.prog 166 #[.agg a.cells, .agg b.cells] w fun e w' => e = .returned (.tuple #[.agg (y5l a b).cells, .int .u64 (un (bv (m4 a b)))]) ∧ Below w.heap.size w w' := by
 unfold Q.cells
 go_enter Tryz.func166, Tryz.ntmps166
 go_wp2_with fail
 exact z8h Tryz.results166 rfl (w.heap.size + 1 + 1) 184 (y5l a b).cells (0, 0) _ (.int .u64 (un (bv (m4 a b)))) rfl rfl (k6x w _ _ _ _) Tryz.underlying184 rfl (by kernel_rfl) ⟨rfl, q5o w _ _ _ _⟩
set_option maxHeartbeats 2000000 in
theorem q6q (a b : Q) (w : World) : Calls Tryz.prog 200 #[.agg a.cells, .agg b.cells] w fun e w' => e = .returned (.tuple #[.agg (x5i a b).cells, .int .u64 (un (bv (k4 a b)))]) ∧ Below w.heap.size w w' := by
 unfold Q.cells
 go_enter Tryz.func200, Tryz.ntmps200
 go_wp2_with fail
 exact z8h Tryz.results200 rfl (w.heap.size + 1 + 1) 184 (x5i a b).cells (0, 0) _ (.int .u64 (un (bv (k4 a b)))) rfl rfl (k6x w _ _ _ _) Tryz.underlying184 rfl (by kernel_rfl) ⟨rfl, q5o w _ _ _ _⟩
def NAt (w : World) (b : Nat) (q : Q) : Prop := w.heap[b]? = some (.cells q.cells 184 (0, 0))
theorem NAt.lt {w : World} {b : Nat} {q : Q} (h : NAt w b q) : b < w.heap.size := (aL h)
theorem NAt.below {w w' : World} {b : Nat} {q : Q} (h : NAt w b q) {k : Nat} (hb : Below k w w') (hk : b < k) : NAt w' b q := (hb.block b hk).trans h
theorem NAt.setRow {w : World} {b : Nat} {q : Q} (h : NAt w b q) (r : Q) : NAt (w.setRow b r.cells) b r := setRow_heap _ _ _ _ _ _ h
theorem z2d {ops : Array Oper} {rest : List Oper} {o : Oper} {a : Act} {w : World} {Q : Exit → Act → World → Prop} (hg : o.guard = none) (x : Operand) (ho : o.op = .load 184 x) (b : Nat) (q : Fw.Q) (hx : a.eval x = .pointer (some ⟨b, 0, none⟩)) (hb : NAt w b q)
  (h : wpList Tryz.prog ops Q rest (a.put o.dst (.agg q.cells)) w) : wpList Tryz.prog ops Q (o :: rest) a w :=
 wpList_load_row hg 184 x ho b hx 184 q.cells (0, 0) _ hb Tryz.underlying184 rfl (by kernel_rfl) h
theorem z2o {ops : Array Oper} {rest : List Oper} {o : Oper} {a : Act} {w : World} {Q : Exit → Act → World → Prop} (hg : o.guard = none) (x y : Operand) (ho : o.op = .store 184 x y) (b : Nat) (q old : Fw.Q) (hx : a.eval x = .pointer (some ⟨b, 0, none⟩)) (hy : a.eval y = .agg q.cells) (hb : NAt w b old)
  (h : wpList Tryz.prog ops Q rest (a.put o.dst undef) (w.setRow b q.cells)) : wpList Tryz.prog ops Q (o :: rest) a w :=
 wpList_store_row hg 184 x y ho b q.cells hx hy 184 old.cells hb (by kernel_rfl) rfl q.cells_one h
theorem y_n {W : World} {K : Act → Prop} {l : List Oper} {o : Oper} {a : Act} (hg : o.guard = none) (x : Operand) (ho : o.op = .load 184 x) (b : Nat) (q : Q) (hx : a.eval x = .pointer (some ⟨b, 0, none⟩)) (hb : NAt W b q)
  (h : Qt.Lex Tryz.prog W K l (a.put o.dst (.agg q.cells))) : Qt.Lex Tryz.prog W K (o :: l) a :=
 Qt.z7g hg 184 x ho b hx 184 q.cells (0, 0) _ hb Tryz.underlying184 rfl (by kernel_rfl) h
theorem y9j {fn : Func} {p : Tmp} (h : fn.results = #[.cell p 184]) {post : Ending → World → Prop} {a : Act} {w : World} (hd : a.defers = []) (g : Nat) (q : Q) (hp : a.tmps.getD p undef = .pointer (some ⟨g, 0, none⟩)) (hg : NAt w g q) (hpost : post (.returned (.agg q.cells)) w) :
  bodyPost Tryz.prog fn post .ret a w :=
 Own.z1g h hd g 184 q.cells (0, 0) _ hp hg Tryz.underlying184 rfl (by kernel_rfl) hpost
theorem j1u (w : World) (a b : Q) : NAt ((w.alloc (.cells a.cells 184)).alloc (.cells b.cells 184)) w.heap.size a := NAt.below (z0d w _ _ rfl) ((Below.refl (w.heap.size + 1) _).alloc (by simp) _) (by omega)
theorem j1v (w : World) (a b : Q) : NAt ((w.alloc (.cells a.cells 184)).alloc (.cells b.cells 184)) (w.heap.size + 1) b := z0d _ _ _ (by simp)
theorem k7p (w : World) (a b : Q) : Below w.heap.size w ((w.alloc (.cells a.cells 184)).alloc (.cells b.cells 184)) := ((Below.refl _ _).alloc (Nat.le_refl _) _).alloc (by simp) _
theorem z5j (w : World) : NAt (w.alloc (.cells zQ.cells 184)) w.heap.size zQ := z0d _ _ _ rfl
abbrev N3 (w : World) (a b : Q) : World := ((w.alloc (.cells a.cells 184)).alloc (.cells b.cells 184)).alloc (.cells zQ.cells 184)
theorem k7z (w : World) (a b : Q) : NAt (N3 w a b) w.heap.size a := NAt.below (z0d w _ _ rfl) (((Below.refl (w.heap.size + 1) _).alloc (by simp) _).alloc (by simp) _) (by omega)
theorem j1w (w : World) (a b : Q) : NAt (N3 w a b) (w.heap.size + 1) b := NAt.below (z0d _ _ _ (by simp)) ((Below.refl (w.heap.size + 2) _).alloc (by simp) _) (by omega)
theorem j0j (w : World) (a b : Q) : NAt (N3 w a b) (w.heap.size + 1 + 1) zQ := z0d _ _ _ (by simp)
theorem k8a (w : World) (a b : Q) : Below w.heap.size w (N3 w a b) := (((Below.refl _ _).alloc (Nat.le_refl _) _).alloc (by simp) _).alloc (by simp; omega) _
theorem k7d (b : Bool) : (un (bv b) == 0) = !b := by cases b <;> rfl
theorem k7c (b : Bool) : (un (bv b) != 0) = b := by cases b <;> rfl
set_option maxHeartbeats 400000 in
theorem x5o (a b : Q) (w : World) : Calls Tryz.prog 106 #[.agg a.cells, .agg b.cells] w fun e w' => e = .returned (.bool (decide (a.num < b.num))) ∧ Below w.heap.size w w' := by
 go_enter Tryz.func106, Tryz.ntmps106
 go_wp2_with (first | refine z2d rfl _ rfl w.heap.size a rfl (j1u w a b) ?_ | refine z2d rfl _ rfl (w.heap.size + 1) b rfl (j1v w a b) ?_)
 refine (q6r a b _).mono ?_
 rintro e w1 ⟨rfl, hb⟩
 have HB : Hid _ := hb
 clear hb
 have hbv := k7d (m4 a b)
 go_wp2_with (refine z2o rfl _ _ rfl w1.heap.size (y5l a b) zQ rfl rfl (z5j w1) ?_)
 refine bodyPost_ret (v := .bool (m4 a b)) (by simp [results, Tryz.results106, go_sem, k7c]) rfl ⟨by rw [z8l], ?_⟩
 exact (k7p w a b).trans ((HB.out.mono (k7p w a b).size).trans (((Below.refl _ _).alloc (Nat.le_trans (k7p w a b).size HB.out.size) _).trans ((z0a _ _ _).mono (Nat.le_trans (k7p w a b).size HB.out.size))))
def x3y (a b : Q) : Q := if a.num < b.num then a else y5l a b
theorem x7g (a b : Q) (h : a.num < 2 * b.num) : (x3y a b).num = a.num % b.num := by
 unfold x3y
 by_cases h1 : a.num < b.num
 ·rw [if_pos h1, Nat.mod_eq_of_lt h1]
 ·rw [if_neg h1]
  have h2 := x2m a b
  have h3 : m4 a b = false := by rw [z8l]; exact decide_eq_false h1
  rw [h3, show (bv false).toNat = 0 from rfl] at h2
  rw [Nat.mod_eq_sub_mod (by omega), Nat.mod_eq_of_lt (by omega)]
  omega
set_option maxHeartbeats 400000 in
theorem x1i (a b : Q) (w : World) : Calls Tryz.prog 202 #[.agg a.cells, .agg b.cells] w fun e w' => e = .returned (.agg (x3y a b).cells) ∧ Below w.heap.size w w' := by
 go_enter Tryz.func202, Tryz.ntmps202
 go_wp2_with (first | refine z2d rfl _ rfl w.heap.size a rfl (k7z w a b) ?_ | refine z2d rfl _ rfl (w.heap.size + 1) b rfl (j1w w a b) ?_)
 refine (q6r a b _).mono ?_
 rintro e w1 ⟨rfl, hb⟩
 have HB : Hid (Below (N3 w a b).heap.size (N3 w a b) w1) := hb
 clear hb
 have HR1 : Hid (NAt w1 (w.heap.size + 1 + 1) zQ) := (j0j w a b).below HB.out (j0j w a b).lt
 have HA1 : Hid (NAt w1 w.heap.size a) := (k7z w a b).below HB.out (k7z w a b).lt
 have HX : Hid (Below w1.heap.size w1 ((w1.alloc (.cells zQ.cells 184)).setRow w1.heap.size (y5l a b).cells)) := ((Below.refl _ _).alloc (Nat.le_refl _) _).trans (z0a _ _ _)
 have HR : Hid (NAt ((w1.alloc (.cells zQ.cells 184)).setRow w1.heap.size (y5l a b).cells) (w.heap.size + 1 + 1) zQ) := HR1.out.below HX.out HR1.out.lt
 have HA : Hid (NAt ((w1.alloc (.cells zQ.cells 184)).setRow w1.heap.size (y5l a b).cells) w.heap.size a) := HA1.out.below HX.out HA1.out.lt
 have HS : Hid (NAt ((w1.alloc (.cells zQ.cells 184)).setRow w1.heap.size (y5l a b).cells) w1.heap.size (y5l a b)) := (z5j w1).setRow _
 have HBB : Hid (Below w.heap.size w ((w1.alloc (.cells zQ.cells 184)).setRow w1.heap.size (y5l a b).cells)) := ((k8a w a b).trans (HB.out.mono (k8a w a b).size)).trans (HX.out.mono (Nat.le_trans (k8a w a b).size HB.out.size))
 have hbv := k7d (m4 a b)
 have hbn := k7c (m4 a b)
 have hif := z8l a b
 cases hm : m4 a b with
 | true =>
  rw [hm] at hbv hif hbn
  have HI : Hid (x3y a b = a) := if_pos (of_decide_eq_true hif.symm)
  clear hif hm
  go_wp2_with (first | refine z2o rfl _ _ rfl w1.heap.size (y5l a b) zQ rfl rfl (z5j w1) ?_ | refine z2d rfl _ rfl w.heap.size a rfl HA.out ?_ | refine z2o rfl _ _ rfl (w.heap.size + 1 + 1) a zQ rfl rfl HR.out ?_)
  exact y9j Tryz.results202 rfl (w.heap.size + 1 + 1) a rfl (HR.out.setRow _) ⟨by rw [HI.out], HBB.out.trans ((z0a _ _ _).mono (by omega))⟩
 | false =>
  rw [hm] at hbv hif hbn
  have HI : Hid (x3y a b = y5l a b) := if_neg (of_decide_eq_false hif.symm)
  clear hif hm
  go_wp2_with (first | refine z2o rfl _ _ rfl w1.heap.size (y5l a b) zQ rfl rfl (z5j w1) ?_ | refine z2d rfl _ rfl w1.heap.size (y5l a b) rfl HS.out ?_ | refine z2o rfl _ _ rfl (w.heap.size + 1 + 1) (y5l a b) zQ rfl rfl HR.out ?_)
  exact y9j Tryz.results202 rfl (w.heap.size + 1 + 1) (y5l a b) rfl (HR.out.setRow _) ⟨by rw [HI.out], HBB.out.trans ((z0a _ _ _).mono (by omega))⟩
end Ww
open Go.RowKit
namespace Ww
open Fw Bt
theorem k0t (w : World) : Calls Tryz.prog 223 #[] w fun e w' => e = .returned (.agg (nq PP).cells) ∧ Below w.heap.size w w' := by
 go_enter Tryz.func223, Tryz.ntmps223
 go_wp2_with fail
 exact Own.z1g Tryz.results223 rfl w.heap.size 184 _ (0, 0) _ rfl (heap_alloc_new _ _) Tryz.underlying184 rfl (by kernel_rfl) ⟨rfl, (Below.refl _ _).alloc (Nat.le_refl _) _⟩
def z7c (q : Q) : Ed.F × Bool := if h : q.num < Ed.P then (⟨q.num, h⟩, true) else (0, false)
theorem k8v (q : Q) (h : q.num < Ed.P) : fw ⟨q.num, h⟩ = q.cells := by
 rw [z2t]
 congr 1
 exact (y2j rfl).symm
noncomputable abbrev R2 (w : World) (q : Q) : World := (w.alloc (.cells q.cells 184)).alloc (.cells z0l 161)
theorem k8c (w : World) (q : Q) : NAt (R2 w q) w.heap.size q := NAt.below (z0d w _ _ rfl) ((Below.refl (w.heap.size + 1) _).alloc (by simp) _) (by omega)
theorem j0l (w : World) (q : Q) : WAt (R2 w q) (w.heap.size + 1) 0 := .zero (z0d _ _ _ (by simp))
theorem j0k (w : World) (q : Q) : Below w.heap.size w (R2 w q) := ((Below.refl _ _).alloc (Nat.le_refl _) _).alloc (by simp) _
theorem k2r : (nq PP).num = PP := z3c (by decide)
theorem q7k (q : Q) (w : World) : Calls Tryz.prog 106 #[.agg q.cells, .agg (nq PP).cells] w fun e w' => e = .returned (.bool (decide (q.num < PP))) ∧ Below w.heap.size w w' := by
 have h := x5o q (nq PP) w
 rwa [k2r] at h
set_option maxHeartbeats 400000 in
theorem y6h (q : Q) (w : World) : Calls Tryz.prog 154 #[.agg q.cells] w fun e w' => e = .returned (.tuple #[.agg (fw (z7c q).1), .bool (z7c q).2]) ∧ Below w.heap.size w w' := by
 obtain ⟨pc, hpc⟩ : ∃ pc, pc = (nq PP).cells := ⟨_, rfl⟩
 have Hprime : Hid (∀ w, Calls Tryz.prog 223 #[] w fun e w' => e = .returned (.agg pc) ∧ Below w.heap.size w w') := by rw [hpc]; exact k0t
 have Hbel : Hid (∀ w, Calls Tryz.prog 106 #[.agg q.cells, .agg pc] w fun e w' => e = .returned (.bool (decide (q.num < PP))) ∧ Below w.heap.size w w') := by rw [hpc]; exact q7k q
 clear hpc
 go_enter Tryz.func154, Tryz.ntmps154
 go_wp2_with fail
 refine Qt.y2a (by kernel_rfl) (by kernel_rfl) ?_
 refine y_n rfl _ rfl w.heap.size q rfl (k8c w q) ?_
 refine Qt.z0e rfl 223 #[] (.agg pc) (fun _ => by kernel_rfl) (fun w' _ => Hprime.out w') ?_
 refine Qt.z0e rfl 106 #[.agg q.cells, .agg pc] (.bool (decide (q.num < PP))) (fun _ => by kernel_rfl) (fun w' _ => Hbel.out w') ?_
 refine Qt.z0b rfl (.bool (!decide (q.num < PP))) (fun _ _ => by kernel_rfl) ?_
 simp only [zD]
 refine Qt.z1a ?_
 intro w1 hb
 have HB : Hid (Below (R2 w q).heap.size (R2 w q) w1) := hb
 clear hb
 have HA : Hid (NAt w1 w.heap.size q) := (k8c w q).below HB.out (k8c w q).lt
 have HR : Hid (WAt w1 (w.heap.size + 1) 0) := (j0l w q).below HB.out (j0l w q).lt
 have HT : Hid (Below w.heap.size w w1) := (j0k w q).trans (HB.out.mono (j0k w q).size)
 by_cases h : q.num < PP
 ·have d := decide_eq_true h
  have HF : Hid (z7c q = (⟨q.num, h⟩, true)) := dif_pos h
  have HC : Hid (fw ⟨q.num, h⟩ = q.cells) := k8v q h
  rw [d]
  clear d
  go_wp2_with (first | refine z2d rfl _ rfl w.heap.size q rfl HA.out ?_ | refine z2h rfl _ _ rfl (w.heap.size + 1) ⟨q.num, h⟩ 0 rfl (by rw [HC.out]; rfl) HR.out ?_)
  exact z9k Tryz.results154 rfl (w.heap.size + 1) ⟨q.num, h⟩ true rfl rfl (HR.out.setRow _) ⟨by rw [HF.out], HT.out.trans ((z0a _ _ _).mono (by omega))⟩
 ·have d := decide_eq_false h
  have HF : Hid (z7c q = (0, false)) := dif_neg h
  rw [d]
  clear d
  go_wp2_with (first | refine y9x rfl _ _ rfl (w.heap.size + 1) 0 rfl rfl HR.out ?_)
  exact z9k Tryz.results154 rfl (w.heap.size + 1) 0 false rfl rfl (HR.out.setRow _) ⟨by rw [HF.out], HT.out.trans ((z0a _ _ _).mono (by omega))⟩
theorem q3b (x : Ed.F) (w : World) : Calls Tryz.prog 180 #[.agg (fw x)] w fun e w' => e = .returned (.agg (nq x.val).cells) ∧ Below w.heap.size w w' := by
 rw [z2t]
 generalize nq x.val = q
 unfold Q.cells
 go_enter Tryz.func180, Tryz.ntmps180
 go_wp2_with fail
 exact Own.z1g Tryz.results180 rfl (w.heap.size + 1) 184 q.cells (0, 0) _ rfl (z0d _ _ _ (by simp)) Tryz.underlying184 rfl (by kernel_rfl) ⟨rfl, ((Below.refl _ _).alloc (Nat.le_refl _) _).alloc (by simp) _⟩
theorem q9x (x : BitVec 64) : (un (x &&& 1#64) == 1) = (x.toNat % 2 == 1) := by
 unfold un
 rw [BitVec.toNat_and, show (1#64).toNat = 1 from rfl, Nat.and_one_is_mod]
 rcases Nat.mod_two_eq_zero_or_one x.toNat with h | h <;> rw [h] <;> rfl
theorem j2q (x : BitVec 64) : bits .and .u64 (un x) 1 = un (x &&& 1#64) := UV.z4x x 1#64
theorem x7t (x : Ed.F) (w : World) : Calls Tryz.prog 181 #[.agg (fw x)] w fun e w' => e = .returned (.bool (Ed.z5t x)) ∧ Below w.heap.size w w' := by
 have ho : Ed.z5t x = ((nq x.val).a0.toNat % 2 == 1) := by
  have h := z4f x
  unfold Ed.z5t
  generalize nq x.val = q at h
  unfold Q.num at h
  congr 1
  omega
 rw [z2t, ho]
 generalize nq x.val = q
 unfold Q.cells
 have ha := j2q q.a0
 have hb := q9x q.a0
 go_enter Tryz.func181, Tryz.ntmps181
 go_wp2_with fail
 refine bodyPost_ret (v := .bool (q.a0.toNat % 2 == 1)) (by simp [results, Tryz.results181, go_sem]) rfl ⟨rfl, (Below.refl _ _).alloc (Nat.le_refl _) _⟩
end Ww
end Go.Proofs.YtbojijefenfbgaaGreatDoor
