/- What a call may change: blocks of a set, and those that are new. Slices that lie in blocks of a set. One operation, one law: the world behind it a new name, with what is known of it. Some cells of a row written, by one operation. Comparison of structs and arrays, as one operation. -/
import Derived.Laws.AppendOwn
import Derived.OwnWalk
import Derived.Below
import Derived.Laws.Tables
import Derived.Deep.MidRow
import Derived.Test.YtbojijefenfbgaaGreatDoorGgMapRaw
import Derived.Maps.AppendAt
import Derived.Test.YtbojijefenfbgaaGreatDoorGgOwn
import Derived.Great.Ranges
namespace Go.Proofs.YtbojijefenfbgaaGreatDoor
open Go Go.RowKit Go.ChangeMaps
structure Fr (S : Nat → Prop) (B : Nat) (w w' : World) : Prop where
 os : w'.os = w.os
 tape : w'.tape = w.tape
 output : w'.output = w.output
 size : w.heap.size ≤ w'.heap.size
 block : ∀ k, k < B → ¬ S k → w'.heap[k]? = w.heap[k]?
namespace Fr
variable {S T : Nat → Prop} {B : Nat} {u v w : World}
theorem refl (S : Nat → Prop) (B : Nat) (w : World) : Fr S B w w := ⟨rfl, rfl, rfl, Nat.le_refl _, fun _ _ _ => rfl⟩
theorem trans (h : Fr S B u v) (k : Fr S B v w) : Fr S B u w :=
 ⟨k.os.trans h.os, k.tape.trans h.tape, k.output.trans h.output, Nat.le_trans h.size k.size, fun i hi hs => (k.block i hi hs).trans (h.block i hi hs)⟩
theorem mono (h : Fr S B u v) {C : Nat} (hC : C ≤ B) (hS : ∀ k, k < C → S k → T k) : Fr T C u v :=
 ⟨h.os, h.tape, h.output, h.size, fun i hi hs => h.block i (by omega) fun x => hs (hS i hi x)⟩
theorem of_below {n : Nat} (h : Below n u v) (hB : B ≤ n) : Fr S B u v := ⟨h.os, h.tape, h.output, h.size, fun i hi _ => h.block i (by omega)⟩
theorem below (h : Fr S B u v) {C : Nat} (hC : C ≤ B) (hS : ∀ k, k < C → ¬ S k) : Below C u v := ⟨h.os, h.tape, h.output, h.size, fun i hi => h.block i (by omega) (hS i hi)⟩
theorem setCell (h : Fr S B u v) (a : Addr) (x : Value) (ha : S a.block ∨ B ≤ a.block) : Fr S B u (v.setCell a x) :=
 h.trans ⟨rfl, rfl, rfl, by simp [World.setCell], fun k hk hs => heap_setCell_other _ _ _ _ (by rintro rfl; rcases ha with ha | ha; exact hs ha; omega)⟩
theorem setRow (h : Fr S B u v) (b : Nat) (cs : Array Value) (ha : S b ∨ B ≤ b) : Fr S B u (v.setRow b cs) :=
 h.trans ⟨rfl, rfl, rfl, by simp [World.setRow], fun k hk hs => by
  have : k ≠ b := by rintro rfl; rcases ha with ha | ha; exact hs ha; omega
  simp [World.setRow, Array.getElem?_modify]
  exact fun e => absurd e.symm this⟩
theorem grown (h : Fr S B u v) {r : Option Nat} (hg : v.grownBy w r) (hv : B ≤ v.heap.size) (hr : ∀ b, r = some b → S b ∨ B ≤ b) : Fr S B u w :=
 h.trans ⟨hg.os, hg.tape, hg.output, hg.size, fun k hk hs => hg.block k (by omega) fun e => by rcases hr k e.symm with x | x; exact hs x; omega⟩
theorem turned (h : Fr S B u v) {b : Nat} (hg : v.mapTurned w b) (hv : B ≤ v.heap.size) (ha : S b ∨ B ≤ b) : Fr S B u w := h.grown hg.grown hv fun k e => by cases e; exact ha
theorem alloc (h : Fr S B u v) (o : Obj) (hv : B ≤ v.heap.size) : Fr S B u (v.alloc o) := h.grown (World.grownBy_alloc v o none) hv fun _ e => by cases e
theorem drew (h : Fr S B u v) : Fr S B u v.drew := ⟨h.os, h.tape, h.output, h.size, h.block⟩
theorem calls (h : Fr S B u v) (k : Below v.heap.size v w) (hv : B ≤ v.heap.size) : Fr S B u w := h.trans (of_below k hv)
end Fr
def Row (S : Nat → Prop) (w : World) (e : TypeId) (size : Nat) (v : Value) (n : Nat) (xs : List Value) : Prop := w.ownsRow 0 e size v n xs ∧ ∀ b, v.ownBlock = some b → S b
namespace Row
variable {S T : Nat → Prop} {w w' : World} {e : TypeId} {size : Nat} {v : Value} {n : Nat} {xs : List Value}
theorem nil (S : Nat → Prop) (w : World) (e : TypeId) (size : Nat) : Row S w e size (.slice none 0 0) 0 [] := ⟨⟨by simp, Or.inl ⟨rfl, rfl⟩⟩, fun _ h => by cases h⟩
theorem mono (h : Row S w e size v n xs) (hS : ∀ k, S k → T k) : Row T w e size v n xs := ⟨h.1, fun b hb => hS b (h.2 b hb)⟩
theorem length (h : Row S w e size v n xs) : xs.length = n * size := h.1.1
theorem lt (h : Row S w e size v n xs) (b : Nat) (hb : v.ownBlock = some b) : b < w.heap.size := by
 rcases h.1.2 with ⟨rfl, _⟩ | ⟨g, cap, cur, rfl, _, hg, _⟩
 ·cases hb
 ·injection hb with hb
  subst hb
  exact (Array.getElem?_eq_some_iff.1 hg).1
theorem congr (h : Row S w e size v n xs) (hw : ∀ b, v.ownBlock = some b → w'.heap[b]? = w.heap[b]?) : Row S w' e size v n xs := by
 refine ⟨⟨h.1.1, ?_⟩, h.2⟩
 rcases h.1.2 with h1 | ⟨g, cap, cur, rfl, h2, hg, h3⟩
 ·exact Or.inl h1
 ·exact Or.inr ⟨g, cap, cur, rfl, h2, by rw [hw g rfl]; exact hg, h3⟩
theorem frame {U : Nat → Prop} {B : Nat} (h : Row S w e size v n xs) (hf : Fr U B w w') (hS : ∀ k, S k → ¬ U k ∧ k < B) : Row S w' e size v n xs :=
 h.congr fun b hb => hf.block b (hS b (h.2 b hb)).2 (hS b (h.2 b hb)).1
theorem below {B : Nat} (h : Row S w e size v n xs) (hf : Below B w w') (hB : w.heap.size ≤ B) : Row S w' e size v n xs :=
 h.congr fun b hb => hf.block b (Nat.lt_of_lt_of_le (h.lt b hb) hB)
theorem cases (h : Row S w e size v n xs) : (v = .slice none 0 0 ∧ n = 0 ∧ xs = []) ∨ ∃ g cap cur, v = .slice (some ⟨g, 0, none⟩) n cap ∧ S g ∧ w.heap[g]? = some (.cells cur e (0, 0)) ∧ n ≤ cap ∧ cap ≤ maxLen ∧ cur.size = cap * size ∧ cur.toList.take (n * size) = xs := by
 rcases h.1.2 with ⟨rfl, rfl⟩ | ⟨g, cap, cur, rfl, _, hg, h3⟩
 ·exact Or.inl ⟨rfl, rfl, List.length_eq_zero_iff.1 (by rw [h.1.1]; simp)⟩
 ·exact Or.inr ⟨g, cap, cur, rfl, h.2 g rfl, hg, h3⟩
theorem cell {g : Nat} {cur : Array Value} (hg : w.heap[g]? = some (.cells cur e (0, 0))) (ht : cur.toList.take (n * size) = xs) {j : Nat} {x : Value} (hx : xs[j]? = some x) : w.cell? ⟨g, j, none⟩ = some x := by
 have h1 : cur[j]? = some x := by
  rw [← ht] at hx
  have hj : j < n * size := by
   have := (List.getElem?_eq_some_iff.1 hx).1
   rw [List.length_take] at this
   omega
  rw [List.getElem?_take_of_lt hj] at hx
  simpa using hx
 exact cell_of_row w g j _ _ _ hg ▸ h1
end Row
theorem app_row {P : Program} {ops : Array Oper} {rest : List Oper} {o : Oper} {a : Act} {w : World} {Q : Exit → Act → World → Prop} (hgd : o.guard = none) (s x : Operand) (t : TypeId) (ho : o.op = .call { callee := .builtin .append, args := #[s, x], argTypes := #[t, t] })
  (e : TypeId) (z : Value) (size bytes : Nat) (ht : P.underlying t = some (.slice e)) (h2 : (P.info? e).map (fun i => (i.zero, i.size, i.bytes)) = some (some z, size, bytes)) (hzs : z.cells.size = size) (hsz : 0 < size) (hby : bytes ≤ 4096)
  (S : Nat → Prop) (v : Value) (n : Nat) (xs : List Value) (hs : a.eval s = v) (hown : Row S w e size v n xs)
  (m : Nat) (b cp : Nat) (cs : List Value) (hx : a.eval x = .slice (some ⟨b, 0, none⟩) m cp) (hu : ∀ j c, cs[j]? = some c → w.cell? ⟨b, j, none⟩ = some c) (hl : cs.length = m * size) (h1 : ∀ c ∈ cs, c.oneCell' = true) (hn : n + m ≤ 30000000000)
  (h : ∀ v' w', Row (fun k => S k ∨ k = w.heap.size) w' e size v' (n + m) (xs ++ cs) → w.grownBy w' v.ownBlock → wpList P ops Q rest (a.put o.dst v') w') : wpList P ops Q (o :: rest) a w := by
 obtain ⟨i, hi, hz0, hz1, hz2⟩ := info_parts h2
 refine wpList_append_own_at w hgd s x t ho 0 e i z size bytes ht hi hz0 hz1 hz2 hzs hsz v n xs hs hown.1 ⟨b, 0, none⟩ m cp cs hx hl (fun j u hj => ?_) h1 (by unfold maxLen; omega) ?_ (Nat.zero_le _) (fun v' w' h3 h4 h5 h6 => ?_)
 ·rw [Addr.add_mid, Nat.zero_add]
  exact hu j u hj
 ·have : (n + m) * bytes ≤ 30000000000 * 4096 := Nat.mul_le_mul (by omega) hby
  omega
 ·refine h v' w' ⟨h3, fun k hk => ?_⟩ h4
  rcases h6 with h6 | h6
  ·exact Or.inl (hown.2 k (by rw [← h6]; exact hk))
  ·rw [h6] at hk
   injection hk with hk
   exact Or.inr hk.symm
end Go.Proofs.YtbojijefenfbgaaGreatDoor
namespace Go.Proofs.YtbojijefenfbgaaGreatDoor
open Go Go.RowKit
namespace Ks
variable {P : Program} {ops : Array Oper} {rest : List Oper} {o : Oper} {a : Act} {w : World} {Q : Exit → Act → World → Prop}
theorem reg {id : Nat} {l : List Oper} (h : wpList P l.toArray Q l a w) : (Code.region id l.toArray false).wp P Q a w := wp_region_list h
theorem ret {K : Act → World → Prop} (h : Q .ret a w) : Exit.then K Q .ret a w := h
theorem norm {K : Act → World → Prop} (h : K a w) : Exit.then K Q .normal a w := h
theorem done {K : Act → World → Prop} (h : K a w) : wpList P ops (Exit.then K Q) [] a w := h
theorem val (hg : o.guard = none) (v : Value) (hv : (execOp a.eval o).run P w = .ok (.value v) w) (h : wpList P ops Q rest (a.put o.dst v) w) : wpList P ops Q (o :: rest) a w :=
 wpList_plain hg fun K hK => by
  unfold Oper.wp
  rw [hv]
  exact hK _ _ h
theorem v (x : Value) (h : wpList P ops Q rest (a.put o.dst x) w) (hg : o.guard = none := by rfl) (hv : (execOp a.eval o).run P w = .ok (.value x) w := by kernel_rfl) : wpList P ops Q (o :: rest) a w := val hg x hv h
theorem off (hw : Region.wanted o (yielded ops a.tmps) = false) (h : wpList P ops Q rest (a.put o.dst undef) w) : wpList P ops Q (o :: rest) a w :=
 wpList_step fun K hK => by
  rw [hw]
  exact hK _ _ h
theorem valg (hw : Region.wanted o (yielded ops a.tmps) = true) (v : Value) (hv : (execOp a.eval o).run P w = .ok (.value v) w) (h : wpList P ops Q rest (a.put o.dst v) w) : wpList P ops Q (o :: rest) a w :=
 wpList_step fun K hK => by
  rw [hw]
  show o.wp P a w K Q
  unfold Oper.wp
  rw [hv]
  exact hK _ _ h
theorem load_cell {ty : TypeId} {d : TypeDesc} (hu : P.underlying ty = some d) (hd : d.isRow = false) {w : World} {b off : Nat} {v : Value} (h : w.cell? ⟨b, off, none⟩ = some v) : (loadVar ty ⟨b, off, none⟩).run P w = .ok v w := by
 have h1 := run_underlying hu w
 cases d <;> simp [TypeDesc.isRow] at hd <;> simp [loadVar, isAgg, go_sem, h, h1]
theorem cell (hg : o.guard = none) (ty : TypeId) (x : Operand) (ho : o.op = .load ty x) {d : TypeDesc} (hu : P.underlying ty = some d) (hd : d.isRow = false) (b off : Nat) (v : Value) (hx : a.eval x = .pointer (some ⟨b, off, none⟩)) (hc : w.cell? ⟨b, off, none⟩ = some v)
  (h : wpList P ops Q rest (a.put o.dst v) w) : wpList P ops Q (o :: rest) a w := by
 refine val hg v ?_ h
 have h1 := load_cell hu hd hc
 unfold execOp
 simp only [ho, hx, Instr.loadAt, Instr.sureAddr, Sem.run_bind, Sem.run_pure, Result.andThen_ok, h1]
theorem row (hg : o.guard = none) (ty : TypeId) (x : Operand) (ho : o.op = .load ty x) (b : Nat) (hx : a.eval x = .pointer (some ⟨b, 0, none⟩)) {t : TypeId} {cs : Array Value} {fr : Nat × Nat} (hb : w.heap[b]? = some (.cells cs t fr)) {d : TypeDesc} (hu : P.underlying ty = some d) (hd : (match d with | .struct _ | .array _ _ => true | _ => false) = true) (hi : (P.info? ty).map (·.size) = some cs.size)
  (h : wpList P ops Q rest (a.put o.dst (.agg cs)) w) : wpList P ops Q (o :: rest) a w := by
 refine val hg _ ?_ h
 unfold execOp
 simp only [ho, hx, Instr.loadAt, Instr.sureAddr, Sem.run_bind, Sem.run_pure, Result.andThen_ok, run_loadVar_row w b t ty cs fr d hb hu hd hi]
theorem mid (hg : o.guard = none) (ty : TypeId) (x : Operand) (ho : o.op = .load ty x) (b off : Nat) (hx : a.eval x = .pointer (some ⟨b, off, none⟩)) (cs : List Value) {d : TypeDesc} (hc : w.rangeAt b off cs) (hu : P.underlying ty = some d) (hd : d.isRow = true) (hi : (P.info? ty).map (·.size) = some cs.length)
  (h : wpList P ops Q rest (a.put o.dst (.agg cs.toArray)) w) : wpList P ops Q (o :: rest) a w := by
 refine val hg _ ?_ h
 unfold execOp
 simp only [ho, hx, Instr.loadAt, Instr.sureAddr, Sem.run_bind, Sem.run_pure, Result.andThen_ok, run_loadVar_mid w b off ty cs d hc hu hd hi]
theorem store (hg : o.guard = none) (ty : TypeId) (x y : Operand) (ho : o.op = .store ty x y) (b off : Nat) (v : Value) (hx : a.eval x = .pointer (some ⟨b, off, none⟩)) (hy : a.eval y = v) {t : TypeId} {cs : Array Value} (hb : w.heap[b]? = some (.cells cs t (0, 0))) (ho1 : off < cs.size) (hi : (P.info? ty).map (·.size) = some 1) (hv : v.oneCell' = true) (cs' : Array Value) (hcs : cs.setIfInBounds off v = cs')
  (h : ∀ w', Hid (w'.heap[b]? = some (.cells cs' t (0, 0))) → Hid (∀ S B, (S b ∨ B ≤ b) → Fr S B w w') → Hid (∀ k, k ≠ b → w'.heap[k]? = w.heap[k]?) → Hid (w'.heap.size = w.heap.size) → wpList P ops Q rest (a.put o.dst undef) w') : wpList P ops Q (o :: rest) a w := by
 subst hcs
 refine wpList_plain hg fun K hK => ?_
 have hf : w.frozen? ⟨b, off, none⟩ = false := frozen_of_row w b off _ t hb
 obtain ⟨i, hii, his⟩ := Option.map_eq_some_iff.1 hi
 have hc : ∃ u, w.cell? ⟨b, off, none⟩ = some u := ⟨cs[off], by rw [cell_of_row w b off _ _ _ hb]; exact Array.getElem?_eq_getElem ho1⟩
 obtain ⟨u, hc⟩ := hc
 have h1 : (storeVar ty ⟨b, off, none⟩ v).run P w = .ok () (w.setCell ⟨b, off, none⟩ v) := by
  have hs : (sizeOf ty).run P w = .ok 1 w := by simp [sizeOf, typeInfo, hii, his]
  clear hx hy h hK ho
  cases v <;> simp [Value.oneCell'] at hv <;> first | (simp [storeVar, hs, go_sem, hc, hf]; done) | (simp [storeVar, hs, go_sem]; rw [run_store _ _ _ _ _ rfl]; simp [go_sem, hc, hf])
 unfold Oper.wp execOp
 simp only [ho, hx, hy, Instr.storeAt, Instr.sureAddr, Sem.run_bind, Sem.run_pure, Result.andThen_ok, h1]
 refine hK _ _ (h _ ?_ ?_ ?_ ?_)
 ·exact heap_setCell_same w b off _ t v hb
 ·exact fun S B hS => (Fr.refl S B w).setCell _ _ hS
 ·exact fun k hk => heap_setCell_other _ _ _ _ hk
 ·show (w.setCell ⟨b, off, none⟩ v).heap.size = w.heap.size
  simp [World.setCell]
theorem make (hg : o.guard = none) (t : TypeId) (ho : o.op = .makeMap t none) (h : ∀ w' b, Hid (b = w.heap.size) → Hid (w'.heap[b]? = some (.map #[] 0)) → Hid (Below w.heap.size w w') → Hid (w'.heap.size = w.heap.size + 1) → wpList P ops Q rest (a.put o.dst (.map (some b))) w') : wpList P ops Q (o :: rest) a w := by
 refine wpList_plain hg fun K hK => ?_
 have h1 := @run_makeMap P t w
 unfold Oper.wp execOp
 simp only [ho, Sem.run_bind, Option.map_none, h1, Result.andThen_ok, Sem.run_pure]
 exact hK _ _ (h _ _ rfl (heap_alloc_new _ _) ((Below.refl _ _).alloc (Nat.le_refl _) _) (by show (w.heap.push _).size = _; simp))
theorem box (hg : o.guard = none) (t : TypeId) (x : Operand) (ho : o.op = .box t x) (cs : Array Value) (hx : (a.eval x).cells = cs) (h : ∀ w' b, Hid (b = w.heap.size) → Hid (w'.heap[b]? = some (.cells cs t (0, 0))) → Hid (Below w.heap.size w w') → Hid (w'.heap.size = w.heap.size + 1) → wpList P ops Q rest (a.put o.dst (.pointer (some ⟨b, 0, none⟩))) w') : wpList P ops Q (o :: rest) a w :=
 Great.wpList_boxTo hg t x ho _ rfl _ rfl cs hx (h _ _ rfl (heap_alloc_new _ _) ((Below.refl _ _).alloc (Nat.le_refl _) _) (by show (w.heap.push _).size = _; simp))
theorem alloc (hg : o.guard = none) (t : TypeId) (ho : o.op = .alloc t) (z : Value) (hz : (P.info? t).map (fun i => i.zero) = some (some z)) (cs : Array Value) (hcs : z.cells = cs) (h : ∀ w' b, Hid (b = w.heap.size) → Hid (w'.heap[b]? = some (.cells cs t (0, 0))) → Hid (Below w.heap.size w w') → Hid (w'.heap.size = w.heap.size + 1) → wpList P ops Q rest (a.put o.dst (.pointer (some ⟨b, 0, none⟩))) w') : wpList P ops Q (o :: rest) a w := by
 subst hcs
 refine wpList_plain hg fun K hK => ?_
 obtain ⟨i, hi, hzi⟩ := Option.map_eq_some_iff.1 hz
 unfold Oper.wp
 simp [execOp, ho, Instr.alloc, zeroValue, typeInfo, hi, hzi, newVar, newRow, Result.andThen]
 exact hK _ _ (h _ _ rfl (heap_alloc_new _ _) ((Below.refl _ _).alloc (Nat.le_refl _) _) (by show (w.heap.push _).size = _; simp))
theorem whole (hg : o.guard = none) (ty : TypeId) (x y : Operand) (ho : o.op = .store ty x y) (b : Nat) (cs : Array Value) (hx : a.eval x = .pointer (some ⟨b, 0, none⟩)) (hy : a.eval y = .agg cs) {t : TypeId} {old : Array Value} (hb : w.heap[b]? = some (.cells old t (0, 0))) (hi : (P.info? ty).map (·.size) = some cs.size) (hold : old.size = cs.size) (h1 : cs.all (·.oneCell') = true)
  (h : ∀ w', Hid (w'.heap[b]? = some (.cells cs t (0, 0))) → Hid (∀ S B, (S b ∨ B ≤ b) → Fr S B w w') → Hid (∀ k, k ≠ b → w'.heap[k]? = w.heap[k]?) → Hid (w'.heap.size = w.heap.size) → wpList P ops Q rest (a.put o.dst undef) w') : wpList P ops Q (o :: rest) a w := by
 refine wpList_store_row hg ty x y ho b cs hx hy t old hb hi hold h1 (h _ ?_ ?_ ?_ ?_)
 ·exact setRow_heap _ _ _ _ _ _ hb
 ·exact fun S B hS => (Fr.refl S B w).setRow _ _ hS
 ·intro k hk
  show (w.setRow b cs).heap[k]? = w.heap[k]?
  simp [World.setRow, Array.getElem?_modify]
  exact fun e => absurd e.symm hk
 ·show (w.setRow b cs).heap.size = w.heap.size
  simp [World.setRow]
theorem decl {os : Oper} (hg : o.guard = none) (T : TypeId) (ho : o.op = .alloc T) (z : Value) (hz : (P.info? T).map (fun i => i.zero) = some (some z)) (hgs : os.guard = none) (x y : Operand) (hs : os.op = .store T x y) (cs : Array Value) (hx : ∀ b, (a.put o.dst (.pointer (some ⟨b, 0, none⟩))).eval x = .pointer (some ⟨b, 0, none⟩)) (hy : ∀ b, (a.put o.dst (.pointer (some ⟨b, 0, none⟩))).eval y = .agg cs)
  (hi : (P.info? T).map (·.size) = some cs.size) (hold : z.cells.size = cs.size) (h1 : cs.all (·.oneCell') = true)
  (h : ∀ w' b, Hid (w.heap.size ≤ b) → Hid (w'.heap[b]? = some (.cells cs T (0, 0))) → Hid (Below w.heap.size w w') → wpList P ops Q rest ((a.put o.dst (.pointer (some ⟨b, 0, none⟩))).put os.dst undef) w') : wpList P ops Q (o :: os :: rest) a w := by
 refine alloc hg T ho z hz _ rfl ?_
 intro w1 b Hb HR HB HS
 refine whole hgs T x y hs b cs (hx b) (hy b) HR.out hi hold h1 ?_
 intro w2 HR2 H2 H3 H4
 refine h w2 b (Nat.le_of_eq Hb.out.symm) HR2.out (HB.out.trans ?_)
 exact (H2.out (fun _ => False) w.heap.size (Or.inr (Nat.le_of_eq Hb.out.symm))).below (Nat.le_refl _) (fun _ _ h => h)
theorem call (hg : o.guard = none) (f : FuncId) (args : Array Value) (hv : (execOp a.eval o).run P w = .ok (.enter f args) w) {R : Value → World → Prop} (hc : Calls P f args w fun e w' => ∃ v, e = .returned v ∧ R v w')
  (h : ∀ v w', R v w' → wpList P ops Q rest (a.put o.dst v) w') : wpList P ops Q (o :: rest) a w :=
 wpList_plain hg fun K hK => by
  unfold Oper.wp
  rw [hv]
  refine hc.mono ?_
  rintro e w' ⟨v, rfl, hr⟩
  exact hK _ _ (h v w' hr)
theorem cellg (hw : Region.wanted o (yielded ops a.tmps) = true) (ty : TypeId) (x : Operand) (ho : o.op = .load ty x) {d : TypeDesc} (hu : P.underlying ty = some d) (hd : d.isRow = false) (b off : Nat) (v : Value) (hx : a.eval x = .pointer (some ⟨b, off, none⟩)) (hc : w.cell? ⟨b, off, none⟩ = some v)
  (h : wpList P ops Q rest (a.put o.dst v) w) : wpList P ops Q (o :: rest) a w := by
 refine valg hw v ?_ h
 have h1 := load_cell hu hd hc
 unfold execOp
 simp only [ho, hx, Instr.loadAt, Instr.sureAddr, Sem.run_bind, Sem.run_pure, Result.andThen_ok, h1]
theorem callg (hw : Region.wanted o (yielded ops a.tmps) = true) (f : FuncId) (args : Array Value) (hv : (execOp a.eval o).run P w = .ok (.enter f args) w) {R : Value → World → Prop} (hc : Calls P f args w fun e w' => ∃ v, e = .returned v ∧ R v w')
  (h : ∀ v w', R v w' → wpList P ops Q rest (a.put o.dst v) w') : wpList P ops Q (o :: rest) a w :=
 wpList_step fun K hK => by
  rw [hw]
  show o.wp P a w K Q
  unfold Oper.wp
  rw [hv]
  refine hc.mono ?_
  rintro e w' ⟨v, rfl, hr⟩
  exact hK _ _ (h v w' hr)
theorem pure (hw : Region.wanted o (yielded ops a.tmps) = true) (f : FuncId) (args : Array Value) (hv : (execOp a.eval o).run P w = .ok (.enter f args) w) {v : Value} (hc : Calls P f args w fun e w' => e = .returned v ∧ Below w.heap.size w w')
  (h : ∀ w', Below w.heap.size w w' → wpList P ops Q rest (a.put o.dst v) w') : wpList P ops Q (o :: rest) a w :=
 callg hw f args hv (R := fun u w' => u = v ∧ Below w.heap.size w w') (hc.mono fun e w' hx => ⟨_, hx.1, rfl, hx.2⟩) fun u w' ⟨e, hb⟩ => by
  subst e
  exact h w' hb
theorem fin (h : Q .normal a w) : wpList P ops Q [] a w := h
theorem inb {id : Nat} {K : Act → World → Prop} (h : K a w) : Exit.inBlock id (Exit.then K Q) .normal a w := h
theorem exit1 {id : Nat} {K : Act → World → Prop} (h : Q .normal a w) : Exit.then K (Exit.inBlock id Q) (.exit id) a w := by
 show (if id = id then _ else _)
 rw [if_pos rfl]
 exact h
theorem exit2 {id : Nat} {K L : Act → World → Prop} (h : Q .normal a w) : Exit.then K (Exit.then L (Exit.inBlock id Q)) (.exit id) a w := exit1 (K := L) h
theorem least (p : Nat → Prop) (h : ∃ n, p n) : ∃ n, p n ∧ ∀ m, p m → n ≤ m := by
 obtain ⟨n, hn⟩ := h
 induction n using Nat.strongRecOn with
 | _ n ih =>
  by_cases hc : ∃ m, m < n ∧ p m
  ·obtain ⟨m, hm, hp⟩ := hc
   exact ih m hm hp
  ·exact ⟨n, hn, fun m hp => Nat.le_of_not_lt fun hlt => hc ⟨m, hlt, hp⟩⟩
theorem loop {c : Code} (I : Nat → Act → World → Prop) (n : Nat) (h : I n a w) (round : ∀ n a w, I n a w → c.wp P (Exit.then (fun a' w' => ∃ m, m < n ∧ I m a' w') Q) a w) : (Code.loop c).wp P Q a w := by
 have hx : ∀ a w, ∃ n : Nat, (∃ n, I n a w) → I n a w ∧ ∀ m, I m a w → n ≤ m := fun a w => by
  by_cases h : ∃ n, I n a w
  ·obtain ⟨n, h1, h2⟩ := least (fun n => I n a w) h
   exact ⟨n, fun _ => ⟨h1, h2⟩⟩
  ·exact ⟨0, fun h' => absurd h' h⟩
 have hm : ∃ μ : Act → World → Nat, ∀ a w, (∃ n, I n a w) → I (μ a w) a w ∧ ∀ m, I m a w → μ a w ≤ m := ⟨fun a w => Classical.choose (hx a w), fun a w => Classical.choose_spec (hx a w)⟩
 obtain ⟨μ, hμ⟩ := hm
 refine wp_loop (fun a w => ∃ n, I n a w) μ ⟨n, h⟩ ?_
 intro a w hI
 refine wp_mono (round _ _ _ (hμ a w hI).1) ?_
 intro e a' w' hq
 cases e with
 | normal =>
  obtain ⟨m, hlt, hI'⟩ := hq
  exact ⟨⟨m, hI'⟩, Nat.lt_of_le_of_lt ((hμ a' w' ⟨m, hI'⟩).2 m hI') hlt⟩
 | _ => exact hq
theorem entry (hg : o.guard = none) (it : Operand) (ho : o.op = .entry it) (r : Nat) (v : Value) (hit : a.eval it = .pointer (some ⟨r, 0, none⟩)) (hen : (Instr.entry (.pointer (some ⟨r, 0, none⟩))).run P w = .ok v w) (h : wpList P ops Q rest (a.put o.dst v) w) : wpList P ops Q (o :: rest) a w := by
 refine val hg v ?_ h
 unfold execOp
 simp only [ho, hit, hen, Sem.run_bind, Result.andThen_ok]
 rfl
theorem range_nil (hg : o.guard = none) (m : Operand) (t : TypeId) (ho : o.op = Op.range t m) {k e : TypeId} (ht : P.underlying t = some (.map k e)) (hm : a.eval m = .map none)
  (h : ∀ w' r, Hid (r = w.heap.size) → Hid (w'.heap[r]? = some (.mapIter none 0 #[] 0)) → Hid (Below w.heap.size w w') → wpList P ops Q rest (a.put o.dst (.pointer (some ⟨r, 0, none⟩))) w') : wpList P ops Q (o :: rest) a w := by
 refine wpList_plain hg fun K' hK' => ?_
 have h1 := run_range_nilMap (P := P) w t k e ht
 unfold Oper.wp
 simp [execOp, ho, hm, h1, Result.andThen]
 exact hK' _ _ (h _ _ rfl (heap_alloc_new _ _) ((Below.refl _ _).alloc (Nat.le_refl _) _))
theorem next_nil (hg : o.guard = none) (it : Operand) (ho : o.op = Op.next it false) (r : Nat) (hit : a.eval it = .pointer (some ⟨r, 0, none⟩)) {x y : Nat} {s : Array Nat} (hr : w.heap[r]? = some (.mapIter none x s y)) (h : wpList P ops Q rest (a.put o.dst (.tuple #[.bool false])) w) : wpList P ops Q (o :: rest) a w := by
 refine val hg _ ?_ h
 have h1 : (Instr.next (.pointer (some ⟨r, 0, none⟩)) false o.type).run P w = .ok (.tuple #[.bool false]) w := by
  simp only [Instr.next, getObj, Sem.run_bind, Sem.run, hr, Result.andThen]
  rfl
 unfold execOp
 simp only [ho, hit, h1, Sem.run_bind, Result.andThen_ok]
 rfl
end Ks
end Go.Proofs.YtbojijefenfbgaaGreatDoor
namespace Go.Proofs.YtbojijefenfbgaaGreatDoor
open Go Go.RowKit
namespace Ks
def setL (cs : Array Value) (o : Nat) : List Value → Array Value
 | [] => cs
 | v :: r => setL (cs.setIfInBounds o v) (o + 1) r
theorem setL_size : ∀ (vs : List Value) (cs : Array Value) (o : Nat), (setL cs o vs).size = cs.size
 | [], _, _ => rfl
 | v :: r, cs, o => by
  unfold setL
  rw [setL_size r]
  simp
theorem setL_get : ∀ (vs : List Value) (cs : Array Value) (o j : Nat), o + vs.length ≤ cs.size → (setL cs o vs)[j]? = if o ≤ j ∧ j < o + vs.length then vs[j - o]? else cs[j]?
 | [], cs, o, j, _ => by
  rw [if_neg (by simp only [List.length_nil]; omega)]
  rfl
 | v :: r, cs, o, j, h => by
  simp only [List.length_cons] at h ⊢
  unfold setL
  rw [setL_get r _ _ _ (by simp; omega)]
  by_cases h1 : o + 1 ≤ j ∧ j < o + 1 + r.length
  ·rw [if_pos h1, if_pos (by omega), show j - o = (j - (o + 1)) + 1 by omega]
   simp
  ·rw [if_neg h1]
   by_cases h2 : j = o
   ·subst h2
    rw [if_pos (by omega), Array.getElem?_setIfInBounds_self_of_lt (by omega)]
    simp
   ·rw [if_neg (by omega), Array.getElem?_setIfInBounds_ne (fun e => h2 e.symm)]
theorem heap_setCells : ∀ (vs : List Value) (w : World) (b o : Nat) (cs : Array Value) (t : TypeId), w.heap[b]? = some (.cells cs t (0, 0)) → (w.setCells b o vs).heap[b]? = some (.cells (setL cs o vs) t (0, 0))
 | [], _, _, _, _, _, h => h
 | v :: r, w, b, o, _cs, t, h => heap_setCells r _ b (o + 1) _ t (heap_setCell_same w b o _ t v h)
theorem heap_setCells_other : ∀ (vs : List Value) (w : World) (b o k : Nat), k ≠ b → (w.setCells b o vs).heap[k]? = w.heap[k]?
 | [], _, _, _, _, _ => rfl
 | _v :: r, _w, b, o, k, h => (heap_setCells_other r _ b (o + 1) k h).trans (heap_setCell_other _ _ _ _ h)
theorem size_setCells : ∀ (vs : List Value) (w : World) (b o : Nat), (w.setCells b o vs).heap.size = w.heap.size
 | [], _, _, _ => rfl
 | v :: r, w, b, o => (size_setCells r _ b (o + 1)).trans (by simp [World.setCell])
theorem fr_setCells (S : Nat → Prop) (B : Nat) {b : Nat} (hb : S b ∨ B ≤ b) : ∀ (vs : List Value) (w : World) (o : Nat), Fr S B w (w.setCells b o vs)
 | [], w, _ => Fr.refl S B w
 | v :: r, w, o => ((Fr.refl S B w).setCell ⟨b, o, none⟩ v hb).trans (fr_setCells S B hb r _ (o + 1))
theorem part {P : Program} {ops : Array Oper} {rest : List Oper} {o : Oper} {a : Act} {w : World} {Q : Exit → Act → World → Prop} (hg : o.guard = none) (ty : TypeId) (x y : Operand) (ho : o.op = .store ty x y) (b off : Nat) (vs : List Value) (hx : a.eval x = .pointer (some ⟨b, off, none⟩)) (hy : a.eval y = .agg vs.toArray) {t : TypeId} {cs : Array Value} (hb : w.heap[b]? = some (.cells cs t (0, 0))) (hsz : off + vs.length ≤ cs.size) (hi : (P.info? ty).map (·.size) = some vs.length) (hv : vs.toArray.all (·.oneCell') = true) (cs' : Array Value) (hcs : setL cs off vs = cs')
  (h : ∀ w', Hid (w'.heap[b]? = some (.cells cs' t (0, 0))) → Hid (∀ S B, (S b ∨ B ≤ b) → Fr S B w w') → Hid (∀ k, k ≠ b → w'.heap[k]? = w.heap[k]?) → Hid (w'.heap.size = w.heap.size) → wpList P ops Q rest (a.put o.dst undef) w') : wpList P ops Q (o :: rest) a w := by
 subst hcs
 refine wpList_store_mid hg ty x y ho b off vs.toArray hx hy (fun j hj => ⟨?_, frozen_of_row w b _ _ t hb⟩) (by simpa using hi) hv (h _ ?_ ?_ ?_ ?_)
 ·have hj' : j < vs.length := by simpa using hj
  rw [cell_of_row w b (off + j) _ _ _ hb, Array.getElem?_eq_getElem (by omega)]
  rfl
 ·exact heap_setCells vs w b off cs t hb
 ·exact fun S B hS => fr_setCells S B hS vs w off
 ·exact fun k hk => heap_setCells_other vs w b off k hk
 ·exact size_setCells vs w b off
end Ks
end Go.Proofs.YtbojijefenfbgaaGreatDoor
namespace Go.Proofs.YtbojijefenfbgaaGreatDoor
open Go Go.RowKit
namespace Ks
theorem exec_eq {P : Program} {o : Oper} {a : Act} {w : World} (t ty : TypeId) (x y : Operand) (ho : o.op = .binOp .eql t x y ty) (u v : Array Value) (hx : a.eval x = .agg u) (hy : a.eval y = .agg v) (hG : P.eqGuardType P.depth t = false) (b : Bool) (he : (Op.equalIn 10000 t (.agg u) (.agg v)).run P w = .ok b w) : (execOp a.eval o).run P w = .ok (.value (.bool b)) w := by
 have hp : (program).run P w = .ok P w := rfl
 unfold execOp
 simp only [ho, hx, hy]
 unfold eqGuard binOp
 simp [hp, hG, Op.equal, Op.maxDepth, he, Result.andThen]
theorem exec_ne {P : Program} {o : Oper} {a : Act} {w : World} (t ty : TypeId) (x y : Operand) (ho : o.op = .binOp .neq t x y ty) (u v : Array Value) (hx : a.eval x = .agg u) (hy : a.eval y = .agg v) (hG : P.eqGuardType P.depth t = false) (b : Bool) (he : (Op.equalIn 10000 t (.agg u) (.agg v)).run P w = .ok b w) : (execOp a.eval o).run P w = .ok (.value (.bool !b)) w := by
 have hp : (program).run P w = .ok P w := rfl
 unfold execOp
 simp only [ho, hx, hy]
 unfold eqGuard binOp
 simp [hp, hG, Op.equal, Op.maxDepth, he, Result.andThen]
end Ks
end Go.Proofs.YtbojijefenfbgaaGreatDoor
