/- Laws of one operation each, for rows of one-cell elements whose whole block is told. -/
import Derived.WalkKit
import Derived.WalkSpells
import Derived.WalkLawsBesides
import Derived.Deep.MidRow
namespace Go.Proofs.YtkmpokneflgmbaaDoor
open Go.RowKit
namespace Own

/-- A block's cells by a function. (A plain definition, so that the walk does not open it.) -/
def mkRow (n : Nat) (f : Nat → Value) : Array Value := Array.ofFn (n := n) (fun j => f j.val)
theorem mkRow_size (n : Nat) (f : Nat → Value) : (mkRow n f).size = n := by simp [mkRow]
theorem mkRow_get {n : Nat} {f : Nat → Value} {j : Nat} (h : j < n) : (mkRow n f)[j]? = some (f j) := by simp [mkRow, h]
theorem mkRow_get_out {n : Nat} {f : Nat → Value} {j : Nat} (h : n ≤ j) : (mkRow n f)[j]? = none := by simp [mkRow, h]
theorem mkRow_congr {n : Nat} {f g : Nat → Value} (h : ∀ j, j < n → f j = g j) : mkRow n f = mkRow n g := by
  apply Array.ext_getElem?
  intro i
  by_cases hi : i < n
  · rw [mkRow_get hi, mkRow_get hi, h i hi]
  · rw [mkRow_get_out (by omega), mkRow_get_out (by omega)]
theorem mkRow_set {n : Nat} {f : Nat → Value} {j : Nat} (v : Value) : (mkRow n f).setIfInBounds j v = mkRow n (fun i => if i = j then v else f i) := by
  apply Array.ext_getElem?
  intro i
  rw [Array.getElem?_setIfInBounds]
  by_cases hi : i < n
  · by_cases e : j = i
    · subst e; rw [mkRow_get (f := fun i => if i = j then v else f i) hi, if_pos rfl, if_pos (by rw [mkRow_size]; exact hi), if_pos rfl]
    · rw [mkRow_get (f := fun i => if i = j then v else f i) hi, if_neg e, mkRow_get hi, if_neg (Ne.symm e)]
  · rw [mkRow_get_out (f := fun i => if i = j then v else f i) (by omega)]
    by_cases e : j = i
    · subst e; rw [if_pos rfl, if_neg (by rw [mkRow_size]; exact hi)]
    · rw [if_neg e, mkRow_get_out (by omega)]
/-- n noughts. -/
def zeros (n : Nat) (z : Value) : Array Value := mkRow n (fun _ => z)
theorem made_zeros (n : Nat) (z : Value) (hz : z.cells = #[z]) : madeCells z.cells (n * 1) = zeros n z := by
  rw [hz]
  apply Array.ext_getElem?
  intro i
  simp only [madeCells, zeros, Nat.mul_one]
  by_cases h : i < n
  · rw [mkRow_get h]; simp [h, Nat.mod_one]
  · rw [mkRow_get_out (by omega)]; simp [h]
/-- A list's cells are a row. -/
theorem mkRow_list (l : List Value) (n : Nat) (h : l.length = n) (f : Nat → Value) (hf : ∀ j (hj : j < l.length), f j = l[j]) : l.toArray = mkRow n f := by
  apply Array.ext_getElem?
  intro i
  by_cases hi : i < n
  · rw [mkRow_get hi, hf i (by omega)]; simp [h, hi]
  · rw [mkRow_get_out (by omega)]; simp; omega
/-- What is known of a block, of the world behind a store into it. -/
theorem row_store {w : World} {g n : Nat} {f : Nat → Value} {t : TypeId} (hg : w.heap[g]? = some (.cells (mkRow n f) t (0, 0))) (i : Nat) (v : Value) :
    (w.setCell ⟨g, i, none⟩ v).heap[g]? = some (.cells (mkRow n (fun j => if j = i then v else f j)) t (0, 0)) := by
  rw [heap_setCell_same w g i _ t v hg, mkRow_set]
theorem row_cell {w : World} {g n : Nat} {f : Nat → Value} {t : TypeId} (hg : w.heap[g]? = some (.cells (mkRow n f) t (0, 0))) (j : Nat) (h : j < n) : w.cell? ⟨g, j, none⟩ = some (f j) := by
  rw [cell_of_row w g j _ t _ hg, mkRow_get h]
theorem row_frozen {w : World} {g n : Nat} {f : Nat → Value} {t : TypeId} (hg : w.heap[g]? = some (.cells (mkRow n f) t (0, 0))) (j : Nat) : w.frozen? ⟨g, j, none⟩ = false := frozen_of_row w g j _ t hg

/-- 'make([]T, n)': the new block, told whole. -/
theorem wpList_make_at {P : Program} (w : World) {ops : Array Oper} {rest : List Oper} {o : Oper} {a : Act} {Q : Exit → Act → World → Prop}
    (hg : o.guard = none) (l c : Operand) (t : TypeId) (hop : o.op = Op.makeSlice t l c)
    (e : TypeId) (z : Value) (by1 : Nat) (h1 : P.underlying t = some (.slice e)) (h2 : (P.info? e).map (fun i => (i.zero, i.size, i.bytes)) = some (some z, 1, by1)) (hz : z.cells = #[z])
    (kl kc : IntKind) (L C : Int) (n : Nat) (hl : a.eval l = .int kl L) (hc : a.eval c = .int kc C) (hL : L = (n : Int)) (hC : C = (n : Int)) (b2 : by1 * n ≤ 281474976710656) (b3 : n ≤ 281474976710656)
    (hK : wpList P ops Q rest (a.put o.dst (.slice (some ⟨w.heap.size, 0, none⟩) n n)) (w.alloc (.cells (zeros n z) e))) :
    wpList P ops Q (o :: rest) a w := by
  refine wpList_plain hg fun K hK' => ?_
  obtain ⟨i, hi, hz0, hz1, hz2⟩ := info_parts h2
  subst hL hC
  have hrun := run_make (P := P) w t e i z h1 hi hz0 kl kc (n : Int) (n : Int) (by omega) (by omega) (by rw [hz2]; omega) (by omega)
  rw [hz1] at hrun
  simp only [Int.toNat_natCast] at hrun
  rw [made_zeros n z hz] at hrun
  unfold Oper.wp
  simp [execOp, hop, hl, hc, hrun, Result.andThen]
  exact hK' _ _ hK

theorem push_fold (l : List UInt8) (r : ByteArray) : (l.map (fun c => ((c.toNat : Nat) : Int))).foldl (fun r n => r.push (UInt8.ofNat n.toNat)) r = ⟨r.data ++ l.toArray⟩ := by
  induction l generalizing r with
  | nil => simp
  | cons c l ih =>
    simp only [List.map_cons, List.foldl_cons]
    rw [ih]
    simp [ByteArray.push]

/-- 'string(b)': the bytes of a slice. -/
theorem wpList_string_at {P : Program} (w : World) {ops : Array Oper} {rest : List Oper} {o : Oper} {a : Act} {Q : Exit → Act → World → Prop}
    (hg : o.guard = none) (x : Operand) (src dst e : TypeId) (hop : o.op = Op.convert src dst x)
    (hs : P.underlying src = some (.slice e)) (he : P.underlying e = some (.int .u8)) (hd : P.underlying dst = some .string)
    (b off cap : Nat) (l : List UInt8) (hx : a.eval x = .slice (some ⟨b, off, none⟩) l.length cap) (hc : ∀ j (h : j < l.length), w.cell? ⟨b, off + j, none⟩ = some (.int .u8 (l[j].toNat : Int)))
    (hK : wpList P ops Q rest (a.put o.dst (.string ⟨l.toArray⟩)) w) :
    wpList P ops Q (o :: rest) a w := by
  refine wpList_plain hg fun K hK' => ?_
  have hl := run_loadCells_list (P := P) (w := w) ⟨b, off, none⟩ ((l.map (fun c => ((c.toNat : Nat) : Int))).map (Value.int .u8)) (fun j v hv => by
    simp only [List.map_map, List.getElem?_map, Option.map_eq_some_iff] at hv
    obtain ⟨c, hc1, rfl⟩ := hv
    obtain ⟨h, rfl⟩ := List.getElem?_eq_some_iff.1 hc1
    have := hc j h
    rw [Addr.add_mid]; simpa using this)
  simp only [List.length_map] at hl
  have hr := run_bytesToString (P := P) w ⟨b, off, none⟩ l.length cap _ hl
  rw [push_fold] at hr
  have h2 := run_convert_bytes_string (P := P) w src dst e (some ⟨b, off, none⟩) l.length cap hs he hd
  rw [hr] at h2
  unfold Oper.wp
  simp [execOp, hop, hx, h2, Result.andThen]
  refine hK' _ _ ?_
  simpa using hK
/-- 'var x T' of an array or struct: its noughts in a new block. -/
theorem wpList_alloc_at {P : Program} (w : World) {ops : Array Oper} {rest : List Oper} {o : Oper} {a : Act} {Q : Exit → Act → World → Prop}
    (hg : o.guard = none) (t : TypeId) (hop : o.op = Op.alloc t) (zs : Array Value) (h2 : (P.info? t).map (fun i => i.zero) = some (some (.agg zs)))
    (hK : wpList P ops Q rest (a.put o.dst (.pointer (some ⟨w.heap.size, 0, none⟩))) (w.alloc (.cells zs t))) :
    wpList P ops Q (o :: rest) a w := by
  refine wpList_plain hg fun K hK' => ?_
  obtain ⟨i, hi, hz⟩ := Option.map_eq_some_iff.1 h2
  unfold Oper.wp
  simp [execOp, hop, Instr.alloc, zeroValue, typeInfo, hi, hz, newVar, newRow, Value.cells, Result.andThen]
  exact hK' _ _ hK

/-- An array or struct written out. -/
theorem wpList_build_at {P : Program} {ops : Array Oper} {rest : List Oper} {o : Oper} {a : Act} {w : World} {Q : Exit → Act → World → Prop} (hg : o.guard = none) (t : TypeId) (parts : Array (Nat × Operand)) (ho : o.op = .build t parts)
    (cs : Array Value) (hf : P.built t (parts.map fun (i, x) => (i, a.eval x)).toList = some cs)
    (h : wpList P ops Q rest (a.put o.dst (.agg cs)) w) : wpList P ops Q (o :: rest) a w :=
  wpList_build hg t parts ho (by rw [hf]; rfl) (by rw [hf]; exact h)

theorem setRow_alloc (w : World) (zs cs : Array Value) (t : TypeId) : (w.alloc (.cells zs t)).setRow w.heap.size cs = w.alloc (.cells cs t) := by
  have h : ((w.alloc (.cells zs t)).setRow w.heap.size cs).heap = (w.alloc (.cells cs t)).heap := by
    apply Array.ext_getElem?
    intro i
    by_cases hi : i = w.heap.size
    · subst hi; rw [setRow_heap _ _ zs cs t (0, 0) (heap_alloc_new _ _), heap_alloc_new]
    · show (Array.modify _ _ _)[i]? = _
      rw [Array.getElem?_modify, if_neg (Ne.symm hi)]
      show (w.heap.push _)[i]? = (w.heap.push _)[i]?
      rw [Array.getElem?_push, Array.getElem?_push, if_neg hi, if_neg hi]
  show ({ (w.alloc (.cells zs t)).setRow w.heap.size cs with heap := ((w.alloc (.cells zs t)).setRow w.heap.size cs).heap } : World) = _
  rw [h]; rfl

/-- 'var x T = v' of an array or struct: the store behind the alloc. -/
theorem wpList_store_new {P : Program} {ops : Array Oper} {rest : List Oper} {o : Oper} {a : Act} {w : World} {Q : Exit → Act → World → Prop} (hgd : o.guard = none) (ty : TypeId) (x y : Operand) (ho : o.op = .store ty x y)
    (zs cells : Array Value) (t : TypeId) (hx : a.eval x = .pointer (some ⟨w.heap.size, 0, none⟩)) (hy : a.eval y = .agg cells)
    (hi : (P.info? ty).map (·.size) = some cells.size) (hold : zs.size = cells.size) (h1 : cells.all (·.oneCell') = true)
    (h : wpList P ops Q rest (a.put o.dst undef) (w.alloc (.cells cells t))) : wpList P ops Q (o :: rest) a (w.alloc (.cells zs t)) :=
  wpList_store_row hgd ty x y ho w.heap.size cells hx hy t zs (heap_alloc_new _ _) hi hold h1 (by rw [setRow_alloc]; exact h)

/-- A call that hands back an array or struct: its result's block is told. -/
theorem ret_row {P : Program} {fn : Func} {p : Tmp} {ty : TypeId} (h : fn.results = #[.cell p ty]) {post : Ending → World → Prop} {a : Act} {w : World} (hd : a.defers = []) (g : Nat) (t : TypeId) (cs : Array Value) (fr : Nat × Nat) (d : TypeDesc)
    (hp : a.tmps.getD p undef = .pointer (some ⟨g, 0, none⟩)) (hg : w.heap[g]? = some (.cells cs t fr))
    (hu : P.underlying ty = some d) (hr : (match d with | .struct _ | .array _ _ => true | _ => false) = true) (hi : (P.info? ty).map (·.size) = some cs.size)
    (hpost : post (.returned (.agg cs)) w) : bodyPost P fn post .ret a w :=
  bodyPost_ret (v := .agg cs) (results_cell_row h a.tmps w g t cs fr d hp hg hu hr hi) hd hpost

theorem all_one {n : Nat} {f : Nat → Value} (h : ∀ j, j < n → (f j).oneCell' = true) : (mkRow n f).all (·.oneCell') = true := by
  rw [Array.all_eq_true_iff_forall_mem]
  intro v hv
  obtain ⟨j, hj, rfl⟩ := Array.mem_iff_getElem.1 hv
  rw [mkRow_size] at hj
  have := mkRow_get (f := f) hj
  rw [Array.getElem?_eq_some_iff] at this
  obtain ⟨_, e⟩ := this
  rw [e]; exact h j hj
theorem run_make_at {P : Program} (W : World) (t e : TypeId) (z : Value) (by1 : Nat) (h1 : P.underlying t = some (.slice e)) (h2 : (P.info? e).map (fun i => (i.zero, i.size, i.bytes)) = some (some z, 1, by1)) (hz : z.cells = #[z])
    (kl kc : IntKind) (L C : Int) (n : Nat) (hL : L = (n : Int)) (hC : C = (n : Int)) (b2 : by1 * n ≤ 281474976710656) (b3 : n ≤ 281474976710656) :
    Sem.run P (Instr.makeSlice t (.int kl L) (.int kc C)) W = .ok (.slice (some ⟨W.heap.size, 0, none⟩) n n) (W.alloc (.cells (zeros n z) e)) := by
  obtain ⟨i, hi, hz0, hz1, hz2⟩ := info_parts h2
  subst hL hC
  have hrun := run_make (P := P) W t e i z h1 hi hz0 kl kc (n : Int) (n : Int) (by omega) (by omega) (by rw [hz2]; omega) (by omega)
  rw [hz1] at hrun
  simp only [Int.toNat_natCast] at hrun
  rw [made_zeros n z hz] at hrun
  exact hrun
theorem run_string_at {P : Program} (W : World) (src dst e : TypeId) (hs : P.underlying src = some (.slice e)) (he : P.underlying e = some (.int .u8)) (hd : P.underlying dst = some .string)
    (b off n cap : Nat) (l : List UInt8) (hn : n = l.length) (hc : ∀ j (h : j < l.length), W.cell? ⟨b, off + j, none⟩ = some (.int .u8 (l[j].toNat : Int))) :
    Sem.run P (convert src dst (.slice (some ⟨b, off, none⟩) n cap)) W = .ok (.string ⟨l.toArray⟩) W := by
  subst hn
  have hl := run_loadCells_list (P := P) (w := W) ⟨b, off, none⟩ ((l.map (fun c => ((c.toNat : Nat) : Int))).map (Value.int .u8)) (fun j v hv => by
    simp only [List.map_map, List.getElem?_map, Option.map_eq_some_iff] at hv
    obtain ⟨c, hc1, rfl⟩ := hv
    obtain ⟨h, rfl⟩ := List.getElem?_eq_some_iff.1 hc1
    have := hc j h
    rw [Addr.add_mid]; simpa using this)
  simp only [List.length_map] at hl
  have hr := run_bytesToString (P := P) W ⟨b, off, none⟩ l.length cap _ hl
  rw [push_fold] at hr
  have h2 := run_convert_bytes_string (P := P) W src dst e (some ⟨b, off, none⟩) l.length cap hs he hd
  rw [hr] at h2
  simpa using h2
end Own
end Go.Proofs.YtkmpokneflgmbaaDoor
