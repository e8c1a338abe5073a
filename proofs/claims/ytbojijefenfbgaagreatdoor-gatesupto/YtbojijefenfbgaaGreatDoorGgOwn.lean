/- Laws of one operation each, for rows of one-cell elements whose whole block is told. A region that draws its order: its first n operations leave the worlds of a class within it and yield one value in all of them; the others stand in a row behind them. Then one walk of the text's order serves every order. (The library has this for one world, and for a class without a tail; here both together.) -/
import Derived.WalkKit
import Derived.WalkSpells
import Derived.WalkLawsBesides
import Derived.Deep.MidRow
import Derived.StillTail
import Derived.Deep.Quiet
import Derived.Lib.QuietBelow
import Derived.Laws.Rows
namespace Go.Proofs.YtbojijefenfbgaaGreatDoor
open Go.RowKit
namespace Own
def mkRow (n : Nat) (f : Nat → Value) : Array Value := Array.ofFn (n := n) (fun j => f j.val)
theorem mkRow_size (n : Nat) (f : Nat → Value) : (mkRow n f).size = n := by simp [mkRow]
theorem mkRow_get {n : Nat} {f : Nat → Value} {j : Nat} (h : j < n) : (mkRow n f)[j]? = some (f j) := by simp [mkRow, h]
theorem mkRow_get_out {n : Nat} {f : Nat → Value} {j : Nat} (h : n ≤ j) : (mkRow n f)[j]? = none := by simp [mkRow, h]
theorem mkRow_congr {n : Nat} {f g : Nat → Value} (h : ∀ j, j < n → f j = g j) : mkRow n f = mkRow n g := by
 apply Array.ext_getElem?
 intro i
 by_cases hi : i < n
 ·rw [mkRow_get hi, mkRow_get hi, h i hi]
 ·rw [mkRow_get_out (by omega), mkRow_get_out (by omega)]
theorem mkRow_set {n : Nat} {f : Nat → Value} {j : Nat} (v : Value) : (mkRow n f).setIfInBounds j v = mkRow n (fun i => if i = j then v else f i) := by
 apply Array.ext_getElem?
 intro i
 rw [Array.getElem?_setIfInBounds]
 by_cases hi : i < n
 ·by_cases e : j = i
  ·subst e; rw [mkRow_get (f := fun i => if i = j then v else f i) hi, if_pos rfl, if_pos (by rw [mkRow_size]; exact hi), if_pos rfl]
  ·rw [mkRow_get (f := fun i => if i = j then v else f i) hi, if_neg e, mkRow_get hi, if_neg (Ne.symm e)]
 ·rw [mkRow_get_out (f := fun i => if i = j then v else f i) (by omega)]
  by_cases e : j = i
  ·subst e; rw [if_pos rfl, if_neg (by rw [mkRow_size]; exact hi)]
  ·rw [if_neg e, mkRow_get_out (by omega)]
def zeros (n : Nat) (z : Value) : Array Value := mkRow n (fun _ => z)
theorem made_zeros (n : Nat) (z : Value) (hz : z.cells = #[z]) : madeCells z.cells (n * 1) = zeros n z := by
 rw [hz]
 apply Array.ext_getElem?
 intro i
 simp only [madeCells, zeros, Nat.mul_one]
 by_cases h : i < n
 ·rw [mkRow_get h]; simp [h, Nat.mod_one]
 ·rw [mkRow_get_out (by omega)]; simp [h]
theorem mkRow_list (l : List Value) (n : Nat) (h : l.length = n) (f : Nat → Value) (hf : ∀ j (hj : j < l.length), f j = l[j]) : l.toArray = mkRow n f := by
 apply Array.ext_getElem?
 intro i
 by_cases hi : i < n
 ·rw [mkRow_get hi, hf i (by omega)]; simp [h, hi]
 ·rw [mkRow_get_out (by omega)]; simp; omega
theorem row_store {w : World} {g n : Nat} {f : Nat → Value} {t : TypeId} (hg : w.heap[g]? = some (.cells (mkRow n f) t (0, 0))) (i : Nat) (v : Value) :
  (w.setCell ⟨g, i, none⟩ v).heap[g]? = some (.cells (mkRow n (fun j => if j = i then v else f j)) t (0, 0)) := by
 rw [heap_setCell_same w g i _ t v hg, mkRow_set]
theorem row_cell {w : World} {g n : Nat} {f : Nat → Value} {t : TypeId} (hg : w.heap[g]? = some (.cells (mkRow n f) t (0, 0))) (j : Nat) (h : j < n) : w.cell? ⟨g, j, none⟩ = some (f j) := by
 rw [cell_of_row w g j _ t _ hg, mkRow_get h]
theorem row_frozen {w : World} {g n : Nat} {f : Nat → Value} {t : TypeId} (hg : w.heap[g]? = some (.cells (mkRow n f) t (0, 0))) (j : Nat) : w.frozen? ⟨g, j, none⟩ = false := frozen_of_row w g j _ t hg
theorem wpList_make_at {P : Program} (w : World) {ops : Array Oper} {rest : List Oper} {o : Oper} {a : Act} {Q : Exit → Act → World → Prop}
  (hg : o.guard = none) (l c : Operand) (t : TypeId) (hop : o.op = Op.makeSlice t l c)
  (e : TypeId) (z : Value) (by1 : Nat) (h1 : P.underlying t = some (.slice e)) (h2 : (P.info? e).map (fun i => (i.zero, i.size, i.bytes)) = some (some z, 1, by1)) (hz : z.cells = #[z])
  (kl kc : IntKind) (L C : Int) (n : Nat) (hl : a.eval l = .int kl L) (hc : a.eval c = .int kc C) (hL : L = (n : Int)) (hC : C = (n : Int)) (b2 : by1 * n ≤ 281474976710656) (b3 : n ≤ 281474976710656)
  (hK : wpList P ops Q rest (a.put o.dst (.slice (some ⟨w.heap.size, 0, none⟩) n n)) (w.alloc (.cells (zeros n z) e))) :
  wpList P ops Q (o :: rest) a w := by
 refine wpList_plain hg fun K hK' => ?_
 obtain ⟨i, hi, hz0, hz1, hz2⟩ := info_parts h2
 subst hL hC
 have hrun := run_make (P := P) w t e i z h1 hi hz0 kl kc (n : Int) (n : Int) (by omega) (by omega) (by rw [hz2]; omega) (by omega)
 rw [hz1] at hrun
 simp only [Int.toNat_natCast] at hrun
 rw [made_zeros n z hz] at hrun
 unfold Oper.wp
 simp [execOp, hop, hl, hc, hrun, Result.andThen]
 exact hK' _ _ hK
theorem push_fold (l : List UInt8) (r : ByteArray) : (l.map (fun c => ((c.toNat : Nat) : Int))).foldl (fun r n => r.push (UInt8.ofNat n.toNat)) r = ⟨r.data ++ l.toArray⟩ := by
 induction l generalizing r with
 | nil => simp
 | cons c l ih =>
  simp only [List.map_cons, List.foldl_cons]
  rw [ih]
  simp [ByteArray.push]
theorem wpList_string_at {P : Program} (w : World) {ops : Array Oper} {rest : List Oper} {o : Oper} {a : Act} {Q : Exit → Act → World → Prop}
  (hg : o.guard = none) (x : Operand) (src dst e : TypeId) (hop : o.op = Op.convert src dst x)
  (hs : P.underlying src = some (.slice e)) (he : P.underlying e = some (.int .u8)) (hd : P.underlying dst = some .string)
  (b off cap : Nat) (l : List UInt8) (hx : a.eval x = .slice (some ⟨b, off, none⟩) l.length cap) (hc : ∀ j (h : j < l.length), w.cell? ⟨b, off + j, none⟩ = some (.int .u8 (l[j].toNat : Int)))
  (hK : wpList P ops Q rest (a.put o.dst (.string ⟨l.toArray⟩)) w) :
  wpList P ops Q (o :: rest) a w := by
 refine wpList_plain hg fun K hK' => ?_
 have hl := run_loadCells_list (P := P) (w := w) ⟨b, off, none⟩ ((l.map (fun c => ((c.toNat : Nat) : Int))).map (Value.int .u8)) (fun j v hv => by
  simp only [List.map_map, List.getElem?_map, Option.map_eq_some_iff] at hv
  obtain ⟨c, hc1, rfl⟩ := hv
  obtain ⟨h, rfl⟩ := List.getElem?_eq_some_iff.1 hc1
  have := hc j h
  rw [Addr.add_mid]; simpa using this)
 simp only [List.length_map] at hl
 have hr := run_bytesToString (P := P) w ⟨b, off, none⟩ l.length cap _ hl
 rw [push_fold] at hr
 have h2 := run_convert_bytes_string (P := P) w src dst e (some ⟨b, off, none⟩) l.length cap hs he hd
 rw [hr] at h2
 unfold Oper.wp
 simp [execOp, hop, hx, h2, Result.andThen]
 refine hK' _ _ ?_
 simpa using hK
theorem wpList_alloc_at {P : Program} (w : World) {ops : Array Oper} {rest : List Oper} {o : Oper} {a : Act} {Q : Exit → Act → World → Prop}
  (hg : o.guard = none) (t : TypeId) (hop : o.op = Op.alloc t) (zs : Array Value) (h2 : (P.info? t).map (fun i => i.zero) = some (some (.agg zs)))
  (hK : wpList P ops Q rest (a.put o.dst (.pointer (some ⟨w.heap.size, 0, none⟩))) (w.alloc (.cells zs t))) :
  wpList P ops Q (o :: rest) a w := by
 refine wpList_plain hg fun K hK' => ?_
 obtain ⟨i, hi, hz⟩ := Option.map_eq_some_iff.1 h2
 unfold Oper.wp
 simp [execOp, hop, Instr.alloc, zeroValue, typeInfo, hi, hz, newVar, newRow, Value.cells, Result.andThen]
 exact hK' _ _ hK
theorem wpList_build_at {P : Program} {ops : Array Oper} {rest : List Oper} {o : Oper} {a : Act} {w : World} {Q : Exit → Act → World → Prop} (hg : o.guard = none) (t : TypeId) (parts : Array (Nat × Operand)) (ho : o.op = .build t parts)
  (cs : Array Value) (hf : P.built t (parts.map fun (i, x) => (i, a.eval x)).toList = some cs)
  (h : wpList P ops Q rest (a.put o.dst (.agg cs)) w) : wpList P ops Q (o :: rest) a w :=
 wpList_build hg t parts ho (by rw [hf]; rfl) (by rw [hf]; exact h)
theorem setRow_alloc (w : World) (zs cs : Array Value) (t : TypeId) : (w.alloc (.cells zs t)).setRow w.heap.size cs = w.alloc (.cells cs t) := by
 have h : ((w.alloc (.cells zs t)).setRow w.heap.size cs).heap = (w.alloc (.cells cs t)).heap := by
  apply Array.ext_getElem?
  intro i
  by_cases hi : i = w.heap.size
  ·subst hi; rw [setRow_heap _ _ zs cs t (0, 0) (heap_alloc_new _ _), heap_alloc_new]
  ·show (Array.modify _ _ _)[i]? = _
   rw [Array.getElem?_modify, if_neg (Ne.symm hi)]
   show (w.heap.push _)[i]? = (w.heap.push _)[i]?
   rw [Array.getElem?_push, Array.getElem?_push, if_neg hi, if_neg hi]
 show ({ (w.alloc (.cells zs t)).setRow w.heap.size cs with heap := ((w.alloc (.cells zs t)).setRow w.heap.size cs).heap } : World) = _
 rw [h]; rfl
theorem wpList_store_new {P : Program} {ops : Array Oper} {rest : List Oper} {o : Oper} {a : Act} {w : World} {Q : Exit → Act → World → Prop} (hgd : o.guard = none) (ty : TypeId) (x y : Operand) (ho : o.op = .store ty x y)
  (zs cells : Array Value) (t : TypeId) (hx : a.eval x = .pointer (some ⟨w.heap.size, 0, none⟩)) (hy : a.eval y = .agg cells)
  (hi : (P.info? ty).map (·.size) = some cells.size) (hold : zs.size = cells.size) (h1 : cells.all (·.oneCell') = true)
  (h : wpList P ops Q rest (a.put o.dst undef) (w.alloc (.cells cells t))) : wpList P ops Q (o :: rest) a (w.alloc (.cells zs t)) :=
 wpList_store_row hgd ty x y ho w.heap.size cells hx hy t zs (heap_alloc_new _ _) hi hold h1 (by rw [setRow_alloc]; exact h)
theorem ret_row {P : Program} {fn : Func} {p : Tmp} {ty : TypeId} (h : fn.results = #[.cell p ty]) {post : Ending → World → Prop} {a : Act} {w : World} (hd : a.defers = []) (g : Nat) (t : TypeId) (cs : Array Value) (fr : Nat × Nat) (d : TypeDesc)
  (hp : a.tmps.getD p undef = .pointer (some ⟨g, 0, none⟩)) (hg : w.heap[g]? = some (.cells cs t fr))
  (hu : P.underlying ty = some d) (hr : (match d with | .struct _ | .array _ _ => true | _ => false) = true) (hi : (P.info? ty).map (·.size) = some cs.size)
  (hpost : post (.returned (.agg cs)) w) : bodyPost P fn post .ret a w :=
 bodyPost_ret (v := .agg cs) (results_cell_row h a.tmps w g t cs fr d hp hg hu hr hi) hd hpost
theorem all_one {n : Nat} {f : Nat → Value} (h : ∀ j, j < n → (f j).oneCell' = true) : (mkRow n f).all (·.oneCell') = true := by
 rw [Array.all_eq_true_iff_forall_mem]
 intro v hv
 obtain ⟨j, hj, rfl⟩ := Array.mem_iff_getElem.1 hv
 rw [mkRow_size] at hj
 have := mkRow_get (f := f) hj
 rw [Array.getElem?_eq_some_iff] at this
 obtain ⟨_, e⟩ := this
 rw [e]; exact h j hj
theorem run_make_at {P : Program} (W : World) (t e : TypeId) (z : Value) (by1 : Nat) (h1 : P.underlying t = some (.slice e)) (h2 : (P.info? e).map (fun i => (i.zero, i.size, i.bytes)) = some (some z, 1, by1)) (hz : z.cells = #[z])
  (kl kc : IntKind) (L C : Int) (n : Nat) (hL : L = (n : Int)) (hC : C = (n : Int)) (b2 : by1 * n ≤ 281474976710656) (b3 : n ≤ 281474976710656) :
  Sem.run P (Instr.makeSlice t (.int kl L) (.int kc C)) W = .ok (.slice (some ⟨W.heap.size, 0, none⟩) n n) (W.alloc (.cells (zeros n z) e)) := by
 obtain ⟨i, hi, hz0, hz1, hz2⟩ := info_parts h2
 subst hL hC
 have hrun := run_make (P := P) W t e i z h1 hi hz0 kl kc (n : Int) (n : Int) (by omega) (by omega) (by rw [hz2]; omega) (by omega)
 rw [hz1] at hrun
 simp only [Int.toNat_natCast] at hrun
 rw [made_zeros n z hz] at hrun
 exact hrun
theorem run_string_at {P : Program} (W : World) (src dst e : TypeId) (hs : P.underlying src = some (.slice e)) (he : P.underlying e = some (.int .u8)) (hd : P.underlying dst = some .string)
  (b off n cap : Nat) (l : List UInt8) (hn : n = l.length) (hc : ∀ j (h : j < l.length), W.cell? ⟨b, off + j, none⟩ = some (.int .u8 (l[j].toNat : Int))) :
  Sem.run P (convert src dst (.slice (some ⟨b, off, none⟩) n cap)) W = .ok (.string ⟨l.toArray⟩) W := by
 subst hn
 have hl := run_loadCells_list (P := P) (w := W) ⟨b, off, none⟩ ((l.map (fun c => ((c.toNat : Nat) : Int))).map (Value.int .u8)) (fun j v hv => by
  simp only [List.map_map, List.getElem?_map, Option.map_eq_some_iff] at hv
  obtain ⟨c, hc1, rfl⟩ := hv
  obtain ⟨h, rfl⟩ := List.getElem?_eq_some_iff.1 hc1
  have := hc j h
  rw [Addr.add_mid]; simpa using this)
 simp only [List.length_map] at hl
 have hr := run_bytesToString (P := P) W ⟨b, off, none⟩ l.length cap _ hl
 rw [push_fold] at hr
 have h2 := run_convert_bytes_string (P := P) W src dst e (some ⟨b, off, none⟩) l.length cap hs he hd
 rw [hr] at h2
 simpa using h2
end Own
end Go.Proofs.YtbojijefenfbgaaGreatDoor
namespace Go.Proofs.YtbojijefenfbgaaGreatDoor
open Go Go.RowKit Go.Sort Region
namespace Qt
section
variable {P : Program} {ops : Array Oper} {C : World → Prop} {n : Nat}
def Heads (P : Program) (ops : Array Oper) (C : World → Prop) (n : Nat) (L : Array Bool → Act → Prop) : Nat → Array Bool → Act → Prop
 | 0, listed, a => L listed a
 | f + 1, listed, a => Region.ready .any ops listed ≠ [] ∧ ∀ i ∈ Region.ready .any ops listed, i < n ∧ qOp P ops C i (Heads P ops C n L f (listed.setIfInBounds i true)) a
theorem Heads.wp {g : Nat} {L : Array Bool → Act → Prop} {Q : Exit → Act → World → Prop} (hL : ∀ listed a, L listed a → ∀ w, C w → wpAny P .any ops Q g listed a w) (f : Nat) :
  ∀ listed a, Heads P ops C n L f listed a → ∀ w, C w → wpAny P .any ops Q (g + f) listed a w := by
 induction f with
 | zero => exact hL
 | succ f ih =>
  intro listed a h w hw
  exact ⟨fun h0 => absurd h0 h.1, fun i hi => wpOp_of_qOp hw (fun a' w' hw' h' => ih _ a' h' w' hw') (h.2 i hi).2⟩
theorem ready_head {listed : Array Bool} (hs : Region.sinkB .any ops n = true) (hc : Region.chainB .any ops n = true) (hn : n < ops.size) (inv : HeadInv .any ops n listed) {i j : Nat} (hi : i ∈ Region.ready .any ops listed) (hin : i < n)
  (hj : j ∈ Region.ready .any ops listed) : j < n := by
 rcases Nat.lt_or_ge j n with h | h
 ·exact h
 ·exact absurd hj (tail_waits hs hc hn inv _ i rfl hin (mem_ready.1 hi).1 j h)
theorem Heads.first {L : Array Bool → Act → Prop} (hsel : ∀ (j : Nat) (o : Oper) cs b, ops[j]? = some o → o.op ≠ .select cs b) (hs : Region.sinkB .any ops n = true) (hc : Region.chainB .any ops n = true) (hn : n < ops.size)
  (hend : ∀ listed a, L listed a → ∀ j ∈ Region.ready .any ops listed, n ≤ j) {i : Nat} {oi : Oper} {v : Value} (hoi : ops[i]? = some oi) (hin : i < n) (f : Nat) :
  ∀ listed a, HeadInv .any ops n listed → (∀ j oj, ops[j]? = some oj → j ≠ i → listed.getD j true = false → (∀ e ∈ oj.after, Region.binds .any e = true → e.on ≠ i) → oi.apart ops oj = true) →
   i ∈ Region.ready .any ops listed → YieldsIn P ops C oi v a → Heads P ops C n L f (listed.setIfInBounds i true) (a.put oi.dst v) → Heads P ops C n L (f + 1) listed a := by
 induction f with
 | zero =>
  intro listed a inv _ hr hy H
  refine ⟨List.ne_nil_of_mem hr, fun j hj => ?_⟩
  have hjn := ready_head hs hc hn inv hr hin hj
  refine ⟨hjn, ?_⟩
  by_cases e : j = i
  ·rw [e]; exact hy.qOp hoi H
  ·exact absurd (hend _ _ H j (ready_mono hj e)) (by omega)
 | succ f ih =>
  intro listed a inv hap hr hy H
  refine ⟨List.ne_nil_of_mem hr, fun j hj => ?_⟩
  have hjn := ready_head hs hc hn inv hr hin hj
  refine ⟨hjn, ?_⟩
  by_cases e : j = i
  ·rw [e]; exact hy.qOp hoi H
  ·obtain ⟨hun, oj, hoj, hall⟩ := mem_ready.1 hj
   have hno : ∀ e ∈ oj.after, Region.binds .any e = true → e.on ≠ i := fun e he hb heq => by
    have h1 := hall e he hb
    rw [heq, getD_both (mem_ready.1 hr).1] at h1
    cases h1
   refine qOp_mono (fun a' h3 => ?_) (qOp_put hoj (hap j oj hoj e hun hno) (fun cs b => hsel i oi cs b hoi) (fun cs b => hsel j oj cs b hoj) hy (H.2 j (ready_mono hj e)).2)
   refine ih _ a' (inv.set hj hjn) (fun k ok hk hki hku hkn => hap k ok hk hki ?_ hkn) (ready_mono hr (Ne.symm e)) h3.1 ?_
   ·by_cases hjk : j = k
    ·rw [← hjk]; exact hun
    ·rwa [getD_set_ne true hjk] at hku
   ·rw [Array.setIfInBounds_comm _ _ e]
    exact h3.2
theorem Heads.lex {g : Nat} {K : Act → Prop} (hsel : Region.noSelect ops = true) (hs : Region.sinkB .any ops n = true) (hc : Region.chainB .any ops n = true) (hn : n < ops.size) (l : List Oper) :
  ∀ (k : Nat) (listed : Array Bool) (a : Act), (∀ j, j < l.length → l[j]? = ops[k + j]?) → k + l.length = n → HeadInv .any ops n listed → Region.lexHead .any ops g l.length k listed = true → wpQuiet P ops C K l a →
   Heads P ops C n (fun listed' a' => Region.seqB .any ops g n listed' = true ∧ K a') l.length listed a := by
 induction l with
 | nil =>
  intro k listed a _ hk _ hB h
  have e : k = n := by simpa using hk
  subst e
  exact ⟨by simpa [Region.lexHead] using hB, h⟩
 | cons o l ih =>
  intro k listed a hl hk inv hB h
  have ho : ops[k]? = some o := by simpa using (hl 0 (by simp)).symm
  simp only [List.length_cons, Region.lexHead, Bool.and_eq_true] at hB hk
  have hr : k ∈ Region.ready .any ops listed := by simpa using hB.1.1
  have hq : qOp P ops C k (wpQuiet P ops C K l) a := by unfold qOp; simp only [ho]; exact h
  obtain ⟨v, hy, hK⟩ := yieldsIn_of_qOp ho hq
  exact Heads.first (Region.noSelect_spec hsel) hs hc hn (fun _ _ hL => seqB_ready hL.1) ho (by omega) l.length listed a inv (Region.free_spec ho hB.1.2) hr hy
   (ih (k + 1) _ _ (fun j hj => by have := hl (j + 1) (by simp; omega); simpa [Nat.add_assoc, Nat.add_comm 1 j] using this) (by omega) (inv.set hr (by omega)) hB.2 hK)
theorem wp_region_quiet_tail {id : Nat} {Q : Exit → Act → World → Prop} {a : Act} {w : World} {l : List Oper} (n : Nat) (hm : P.follows .mixedOrders = true) (hB : Region.lexTailB .any l.toArray n = true) (hC : C { w with drawn := w.drawn + 1 })
  (h : wpQuiet P l.toArray C (fun a' => ∀ w', C w' → wpList P l.toArray Q (l.drop n) a' w') (l.take n) a) : (Code.region id l.toArray true).wp P Q a w := by
 simp only [Region.lexTailB, Bool.and_eq_true, decide_eq_true_eq] at hB
 obtain ⟨⟨⟨⟨hsel, hn⟩, hs⟩, hc⟩, hlex⟩ := hB
 have hn' : n < l.length := by simpa using hn
 have htl : (l.take n).length = n := by simp; omega
 have hdl : (l.drop n).length = l.toArray.size - n := by simp
 have inv0 : HeadInv .any l.toArray n (Array.replicate l.toArray.size false) :=
  ⟨by simp, fun j oj _ hl => (by rw [getD_replicate_false] at hl; cases hl), fun t _ ht => getD_in (by simpa using ht) (getD_replicate_false _ _)⟩
 have H := Heads.lex (P := P) (C := C) (g := l.toArray.size - n) hsel hs hc hn (l.take n) 0 _ a (fun j hj => by
  rw [htl] at hj
  simp [hj]) (by rw [htl]; simp) inv0 (by rw [htl]; exact hlex) h
 refine wp_region_any hm ?_
 have := Heads.wp (Q := Q) (g := l.toArray.size - n) (fun listed a' hL w' hw' => by
  have := wpAny_of_seq (md := .any) (Q' := Q) (l.drop n) n listed a' w' (fun j => by simp [List.getElem?_drop]) (by rw [hdl]; exact hL.1) (hL.2 w' hw')
  rwa [hdl] at this) _ _ _ H _ hC
 rw [htl, show l.toArray.size - n + n = l.toArray.size by omega] at this
 exact this
end
def BW (w : World) : World → Prop := fun w' => Below w.heap.size w w'
theorem wp_region_below_tail {P : Program} {id : Nat} {Q : Exit → Act → World → Prop} {a : Act} {w : World} {l : List Oper} (n : Nat) (hm : P.follows .mixedOrders = true) (hB : Region.lexTailB .any l.toArray n = true)
  (h : wpQuiet P l.toArray (BW w) (fun a' => ∀ w', Below w.heap.size w w' → wpList P l.toArray Q (l.drop n) a' w') (l.take n) a) : (Code.region id l.toArray true).wp P Q a w :=
 wp_region_quiet_tail (C := BW w) n hm hB ⟨rfl, rfl, rfl, Nat.le_refl _, fun _ _ => rfl⟩ h
theorem wp_region_below {P : Program} {id : Nat} {Q : Exit → Act → World → Prop} {a : Act} {w : World} {l : List Oper} (hm : P.follows .mixedOrders = true) (hB : Region.lexB .any l.toArray = true)
  (h : wpQuiet P l.toArray (BW w) (fun a' => ∀ w', Below w.heap.size w w' → Q .normal a' w') l a) : (Code.region id l.toArray true).wp P Q a w :=
 wp_region_quiet (C := BW w) hm hB ⟨rfl, rfl, rfl, Nat.le_refl _, fun _ _ => rfl⟩ h
section
variable {P : Program} {ops : Array Oper} {w : World} {Q : Act → Prop} {rest : List Oper} {o : Oper} {a : Act}
theorem q_val (hg : o.guard = none) (v : Value) (hv : ∀ w', Below w.heap.size w w' → (execOp a.eval o).run P w' = .ok (.value v) w') (h : wpQuiet P ops (BW w) Q rest (a.put o.dst v)) : wpQuiet P ops (BW w) Q (o :: rest) a := by
 unfold wpQuiet
 rw [if_pos (by simp [Region.wanted, hg])]
 refine ⟨v, fun w' hw' => ?_, h⟩
 unfold Oper.quietAt
 rw [hv w' hw']
 exact ⟨rfl, rfl⟩
theorem q_call (hg : o.guard = none) (f : FuncId) (args : Array Value) (v : Value) (hv : ∀ w', (execOp a.eval o).run P w' = .ok (.enter f args) w') (hc : ∀ w', Below w.heap.size w w' → Calls P f args w' fun e w'' => e = .returned v ∧ Below w'.heap.size w' w'')
  (h : wpQuiet P ops (BW w) Q rest (a.put o.dst v)) : wpQuiet P ops (BW w) Q (o :: rest) a := by
 unfold wpQuiet
 rw [if_pos (by simp [Region.wanted, hg])]
 refine ⟨v, fun w' hw' => ?_, h⟩
 unfold Oper.quietAt
 rw [hv w']
 refine ⟨rfl, (hc w' hw').mono fun e w'' ⟨he, hb⟩ => ⟨he, ?_⟩⟩
 have h0 : Below w.heap.size w w' := hw'
 exact h0.trans (hb.mono h0.size)
theorem q_row (hg : o.guard = none) (ty : TypeId) (x : Operand) (ho : o.op = .load ty x) (g : Nat) (hx : a.eval x = .pointer (some ⟨g, 0, none⟩)) (t : TypeId) (cs : Array Value) (fr : Nat × Nat) (d : TypeDesc) (hb : w.heap[g]? = some (.cells cs t fr))
  (hu : P.underlying ty = some d) (hd : (match d with | .struct _ | .array _ _ => true | _ => false) = true) (hi : (P.info? ty).map (·.size) = some cs.size)
  (h : wpQuiet P ops (BW w) Q rest (a.put o.dst (.agg cs))) : wpQuiet P ops (BW w) Q (o :: rest) a := by
 refine q_val hg (.agg cs) (fun w' hw' => ?_) h
 have hlt : g < w.heap.size := (Array.getElem?_eq_some_iff.1 hb).1
 unfold execOp
 simp only [ho, hx, Instr.loadAt, Instr.sureAddr, Sem.run_bind, Sem.run_pure, Result.andThen_ok, run_loadVar_row w' g t ty cs fr d ((hw'.block g hlt).trans hb) hu hd hi]
end
end Qt
end Go.Proofs.YtbojijefenfbgaaGreatDoor
