/- Laws of one operation each, for rows of one-cell elements whose whole block is told. A region that draws its order: its first n operations leave the worlds of a class within it and yield one value in all of them; the others stand in a row behind them. Then one walk of the text's order serves every order. (The library has this for one world, and for a class without a tail; here both together.) A region that draws its order, with one operation that may come up at any time (the making of a new variable), n operations ahead of it that leave what was there and yield one value each, and a row of others behind all of them: one walk of the text's order serves every order. The steps of a walk in the text's order, and the regions that they serve. Drawn regions whose operations bear guards. Words of 64 bits as Go's uint64 values: each operation of the model on them is the operation on BitVec 64. -/
import Derived.Test.YtbojijefenfbgaaGreatDoorTtShort
import Derived.WalkSpells
import Derived.WalkLawsBesides
import Derived.Deep.MidRow
import Derived.StillTail
import Derived.Deep.Quiet
import Derived.Lib.QuietBelow
import Derived.Laws.Rows
namespace Go.Proofs.YtbojijefenfbgaaGreatDoor
open Go.RowKit
namespace Own
def z0f (n : Nat) (f : Nat → Value) : Array Value := Array.ofFn (n := n) (fun j => f j.val)
theorem z0p (n : Nat) (f : Nat → Value) : (z0f n f).size = n := by simp [z0f]
theorem z1f {n : Nat} {f : Nat → Value} {j : Nat} (h : j < n) : (z0f n f)[j]? = some (f j) := by simp [z0f, h]
theorem z1w {n : Nat} {f : Nat → Value} {j : Nat} (h : n ≤ j) : (z0f n f)[j]? = none := by simp [z0f, h]
theorem z0k {n : Nat} {f g : Nat → Value} (h : ∀ j, j < n → f j = g j) : z0f n f = z0f n g := by
 apply Array.ext_getElem?
 intro i
 by_cases hi : i < n
 ·rw [z1f hi, z1f hi, h i hi]
 ·rw [z1w (by omega), z1w (by omega)]
theorem x7m {n : Nat} {f : Nat → Value} {j : Nat} (v : Value) : (z0f n f).setIfInBounds j v = z0f n (fun i => if i = j then v else f i) := by
 apply Array.ext_getElem?
 intro i
 rw [Array.getElem?_setIfInBounds]
 by_cases hi : i < n
 ·by_cases e : j = i
  ·subst e; rw [z1f (f := fun i => if i = j then v else f i) hi, if_pos rfl, if_pos (by rw [z0p]; exact hi), if_pos rfl]
  ·rw [z1f (f := fun i => if i = j then v else f i) hi, if_neg e, z1f hi, if_neg (Ne.symm e)]
 ·rw [z1w (f := fun i => if i = j then v else f i) (by omega)]
  by_cases e : j = i
  ·subst e; rw [if_pos rfl, if_neg (by rw [z0p]; exact hi)]
  ·rw [if_neg e, z1w (by omega)]
def z4z (n : Nat) (z : Value) : Array Value := z0f n (fun _ => z)
theorem x4b (n : Nat) (z : Value) (hz : z.cells = #[z]) : madeCells z.cells (n * 1) = z4z n z := by
 rw [hz]
 apply Array.ext_getElem?
 intro i
 simp only [madeCells, z4z, Nat.mul_one]
 by_cases h : i < n
 ·rw [z1f h]; simp [h, Nat.mod_one]
 ·rw [z1w (by omega)]; simp [h]
theorem x4d (l : List Value) (n : Nat) (h : l.length = n) (f : Nat → Value) (hf : ∀ j (hj : j < l.length), f j = l[j]) : l.toArray = z0f n f := by
 apply Array.ext_getElem?
 intro i
 by_cases hi : i < n
 ·rw [z1f hi, hf i (by omega)]; simp [h, hi]
 ·rw [z1w (by omega)]; simp; omega
theorem z1p {w : World} {g n : Nat} {f : Nat → Value} {t : TypeId} (hg : w.heap[g]? = some (.cells (z0f n f) t (0, 0))) (i : Nat) (v : Value) :
  (w.setCell ⟨g, i, none⟩ v).heap[g]? = some (.cells (z0f n (fun j => if j = i then v else f j)) t (0, 0)) := by
 rw [heap_setCell_same w g i _ t v hg, x7m]
theorem z0o {w : World} {g n : Nat} {f : Nat → Value} {t : TypeId} (hg : w.heap[g]? = some (.cells (z0f n f) t (0, 0))) (j : Nat) (h : j < n) : w.cell? ⟨g, j, none⟩ = some (f j) := by
 rw [cell_of_row w g j _ t _ hg, z1f h]
theorem z1o {w : World} {g n : Nat} {f : Nat → Value} {t : TypeId} (hg : w.heap[g]? = some (.cells (z0f n f) t (0, 0))) (j : Nat) : w.frozen? ⟨g, j, none⟩ = false := frozen_of_row w g j _ t hg
theorem z4y {P : Program} (w : World) {ops : Array Oper} {rest : List Oper} {o : Oper} {a : Act} {Q : Exit → Act → World → Prop}
  (hg : o.guard = none) (l c : Operand) (t : TypeId) (hop : o.op = Op.makeSlice t l c)
  (e : TypeId) (z : Value) (by1 : Nat) (h1 : P.underlying t = some (.slice e)) (h2 : (P.info? e).map (fun i => (i.zero, i.size, i.bytes)) = some (some z, 1, by1)) (hz : z.cells = #[z])
  (kl kc : IntKind) (L C : Int) (n : Nat) (hl : a.eval l = .int kl L) (hc : a.eval c = .int kc C) (hL : L = (n : Int)) (hC : C = (n : Int)) (b2 : by1 * n ≤ 281474976710656) (b3 : n ≤ 281474976710656)
  (hK : wpList P ops Q rest (a.put o.dst (.slice (some ⟨w.heap.size, 0, none⟩) n n)) (w.alloc (.cells (z4z n z) e))) :
  wpList P ops Q (o :: rest) a w := by
 refine wpList_plain hg fun K hK' => ?_
 obtain ⟨i, hi, hz0, hz1, hz2⟩ := info_parts h2
 subst hL hC
 have hrun := run_make (P := P) w t e i z h1 hi hz0 kl kc (n : Int) (n : Int) (by omega) (by omega) (by rw [hz2]; omega) (by omega)
 rw [hz1] at hrun
 simp only [Int.toNat_natCast] at hrun
 rw [x4b n z hz] at hrun
 unfold Oper.wp
 simp [execOp, hop, hl, hc, hrun, Result.andThen]
 exact hK' _ _ hK
theorem x8n (l : List UInt8) (r : ByteArray) : (l.map (fun c => ((c.toNat : Nat) : Int))).foldl (fun r n => r.push (UInt8.ofNat n.toNat)) r = ⟨r.data ++ l.toArray⟩ := by
 induction l generalizing r with
 | nil => simp
 | cons c l ih =>
  simp only [List.map_cons, List.foldl_cons]
  rw [ih]
  simp [ByteArray.push]
theorem z2n {P : Program} (w : World) {ops : Array Oper} {rest : List Oper} {o : Oper} {a : Act} {Q : Exit → Act → World → Prop}
  (hg : o.guard = none) (x : Operand) (src dst e : TypeId) (hop : o.op = Op.convert src dst x)
  (hs : P.underlying src = some (.slice e)) (he : P.underlying e = some (.int .u8)) (hd : P.underlying dst = some .string)
  (b off cap : Nat) (l : List UInt8) (hx : a.eval x = .slice (some ⟨b, off, none⟩) l.length cap) (hc : ∀ j (h : j < l.length), w.cell? ⟨b, off + j, none⟩ = some (.int .u8 (l[j].toNat : Int)))
  (hK : wpList P ops Q rest (a.put o.dst (.string ⟨l.toArray⟩)) w) :
  wpList P ops Q (o :: rest) a w := by
 refine wpList_plain hg fun K hK' => ?_
 have hl := run_loadCells_list (P := P) (w := w) ⟨b, off, none⟩ ((l.map (fun c => ((c.toNat : Nat) : Int))).map (Value.int .u8)) (fun j v hv => by
  simp only [List.map_map, List.getElem?_map, Option.map_eq_some_iff] at hv
  obtain ⟨c, hc1, rfl⟩ := hv
  obtain ⟨h, rfl⟩ := List.getElem?_eq_some_iff.1 hc1
  have := hc j h
  rw [Addr.add_mid]; simpa using this)
 simp only [List.length_map] at hl
 have hr := run_bytesToString (P := P) w ⟨b, off, none⟩ l.length cap _ hl
 rw [x8n] at hr
 have h2 := run_convert_bytes_string (P := P) w src dst e (some ⟨b, off, none⟩) l.length cap hs he hd
 rw [hr] at h2
 unfold Oper.wp
 simp [execOp, hop, hx, h2, Result.andThen]
 refine hK' _ _ ?_
 simpa using hK
theorem z0t {P : Program} (w : World) {ops : Array Oper} {rest : List Oper} {o : Oper} {a : Act} {Q : Exit → Act → World → Prop}
  (hg : o.guard = none) (t : TypeId) (hop : o.op = Op.alloc t) (zs : Array Value) (h2 : (P.info? t).map (fun i => i.zero) = some (some (.agg zs)))
  (hK : wpList P ops Q rest (a.put o.dst (.pointer (some ⟨w.heap.size, 0, none⟩))) (w.alloc (.cells zs t))) :
  wpList P ops Q (o :: rest) a w := by
 refine wpList_plain hg fun K hK' => ?_
 obtain ⟨i, hi, hz⟩ := Option.map_eq_some_iff.1 h2
 unfold Oper.wp
 simp [execOp, hop, Instr.alloc, zeroValue, typeInfo, hi, hz, newVar, newRow, Value.cells, Result.andThen]
 exact hK' _ _ hK
theorem z4j {P : Program} {ops : Array Oper} {rest : List Oper} {o : Oper} {a : Act} {w : World} {Q : Exit → Act → World → Prop} (hg : o.guard = none) (t : TypeId) (parts : Array (Nat × Operand)) (ho : o.op = .build t parts)
  (cs : Array Value) (hf : P.built t (parts.map fun (i, x) => (i, a.eval x)).toList = some cs)
  (h : wpList P ops Q rest (a.put o.dst (.agg cs)) w) : wpList P ops Q (o :: rest) a w :=
 wpList_build hg t parts ho (by rw [hf]; rfl) (by rw [hf]; exact h)
theorem y7q (w : World) (zs cs : Array Value) (t : TypeId) : (w.alloc (.cells zs t)).setRow w.heap.size cs = w.alloc (.cells cs t) := by
 have h : ((w.alloc (.cells zs t)).setRow w.heap.size cs).heap = (w.alloc (.cells cs t)).heap := by
  apply Array.ext_getElem?
  intro i
  by_cases hi : i = w.heap.size
  ·subst hi; rw [setRow_heap _ _ zs cs t (0, 0) (heap_alloc_new _ _), heap_alloc_new]
  ·show (Array.modify _ _ _)[i]? = _
   rw [Array.getElem?_modify, if_neg (Ne.symm hi)]
   show (w.heap.push _)[i]? = (w.heap.push _)[i]?
   rw [Array.getElem?_push, Array.getElem?_push, if_neg hi, if_neg hi]
 show ({ (w.alloc (.cells zs t)).setRow w.heap.size cs with heap := ((w.alloc (.cells zs t)).setRow w.heap.size cs).heap } : World) = _
 rw [h]; rfl
theorem z3t {P : Program} {ops : Array Oper} {rest : List Oper} {o : Oper} {a : Act} {w : World} {Q : Exit → Act → World → Prop} (hgd : o.guard = none) (ty : TypeId) (x y : Operand) (ho : o.op = .store ty x y)
  (zs cells : Array Value) (t : TypeId) (hx : a.eval x = .pointer (some ⟨w.heap.size, 0, none⟩)) (hy : a.eval y = .agg cells)
  (hi : (P.info? ty).map (·.size) = some cells.size) (hold : zs.size = cells.size) (h1 : cells.all (·.oneCell') = true)
  (h : wpList P ops Q rest (a.put o.dst undef) (w.alloc (.cells cells t))) : wpList P ops Q (o :: rest) a (w.alloc (.cells zs t)) :=
 wpList_store_row hgd ty x y ho w.heap.size cells hx hy t zs (heap_alloc_new _ _) hi hold h1 (by rw [y7q]; exact h)
theorem z1g {P : Program} {fn : Func} {p : Tmp} {ty : TypeId} (h : fn.results = #[.cell p ty]) {post : Ending → World → Prop} {a : Act} {w : World} (hd : a.defers = []) (g : Nat) (t : TypeId) (cs : Array Value) (fr : Nat × Nat) (d : TypeDesc)
  (hp : a.tmps.getD p undef = .pointer (some ⟨g, 0, none⟩)) (hg : w.heap[g]? = some (.cells cs t fr))
  (hu : P.underlying ty = some d) (hr : (match d with | .struct _ | .array _ _ => true | _ => false) = true) (hi : (P.info? ty).map (·.size) = some cs.size)
  (hpost : post (.returned (.agg cs)) w) : bodyPost P fn post .ret a w :=
 bodyPost_ret (v := .agg cs) (results_cell_row h a.tmps w g t cs fr d hp hg hu hr hi) hd hpost
theorem y0n {n : Nat} {f : Nat → Value} (h : ∀ j, j < n → (f j).oneCell' = true) : (z0f n f).all (·.oneCell') = true := by
 rw [Array.all_eq_true_iff_forall_mem]
 intro v hv
 obtain ⟨j, hj, rfl⟩ := Array.mem_iff_getElem.1 hv
 rw [z0p] at hj
 have := z1f (f := f) hj
 rw [Array.getElem?_eq_some_iff] at this
 obtain ⟨_, e⟩ := this
 rw [e]; exact h j hj
end Own
open Go Go.RowKit Go.Sort Region
namespace Qt
section
variable {P : Program} {ops : Array Oper} {C : World → Prop} {n : Nat}
def y0j (P : Program) (ops : Array Oper) (C : World → Prop) (n : Nat) (L : Array Bool → Act → Prop) : Nat → Array Bool → Act → Prop
 | 0, listed, a => L listed a
 | f + 1, listed, a => Region.ready .any ops listed ≠ [] ∧ ∀ i ∈ Region.ready .any ops listed, i < n ∧ qOp P ops C i (y0j P ops C n L f (listed.setIfInBounds i true)) a
theorem y0j.wp {g : Nat} {L : Array Bool → Act → Prop} {Q : Exit → Act → World → Prop} (hL : ∀ listed a, L listed a → ∀ w, C w → wpAny P .any ops Q g listed a w) (f : Nat) :
  ∀ listed a, y0j P ops C n L f listed a → ∀ w, C w → wpAny P .any ops Q (g + f) listed a w := by
 induction f with
 | zero => exact hL
 | succ f ih =>
  intro listed a h w hw
  exact ⟨fun h0 => absurd h0 h.1, fun i hi => wpOp_of_qOp hw (fun a' w' hw' h' => ih _ a' h' w' hw') (h.2 i hi).2⟩
theorem y2x {listed : Array Bool} (hs : Region.sinkB .any ops n = true) (hc : Region.chainB .any ops n = true) (hn : n < ops.size) (inv : HeadInv .any ops n listed) {i j : Nat} (hi : i ∈ Region.ready .any ops listed) (hin : i < n)
  (hj : j ∈ Region.ready .any ops listed) : j < n := by
 rcases Nat.lt_or_ge j n with h | h
 ·exact h
 ·exact absurd hj (tail_waits hs hc hn inv _ i rfl hin (mem_ready.1 hi).1 j h)
theorem y0j.first {L : Array Bool → Act → Prop} (hsel : ∀ (j : Nat) (o : Oper) cs b, ops[j]? = some o → o.op ≠ .select cs b) (hs : Region.sinkB .any ops n = true) (hc : Region.chainB .any ops n = true) (hn : n < ops.size)
  (hend : ∀ listed a, L listed a → ∀ j ∈ Region.ready .any ops listed, n ≤ j) {i : Nat} {oi : Oper} {v : Value} (hoi : ops[i]? = some oi) (hin : i < n) (f : Nat) :
  ∀ listed a, HeadInv .any ops n listed → (∀ j oj, ops[j]? = some oj → j ≠ i → listed.getD j true = false → (∀ e ∈ oj.after, Region.binds .any e = true → e.on ≠ i) → oi.apart ops oj = true) →
   i ∈ Region.ready .any ops listed → YieldsIn P ops C oi v a → y0j P ops C n L f (listed.setIfInBounds i true) (a.put oi.dst v) → y0j P ops C n L (f + 1) listed a := by
 induction f with
 | zero =>
  intro listed a inv _ hr hy H
  refine ⟨List.ne_nil_of_mem hr, fun j hj => ?_⟩
  have hjn := y2x hs hc hn inv hr hin hj
  refine ⟨hjn, ?_⟩
  by_cases e : j = i
  ·rw [e]; exact hy.qOp hoi H
  ·exact absurd (hend _ _ H j (ready_mono hj e)) (by omega)
 | succ f ih =>
  intro listed a inv hap hr hy H
  refine ⟨List.ne_nil_of_mem hr, fun j hj => ?_⟩
  have hjn := y2x hs hc hn inv hr hin hj
  refine ⟨hjn, ?_⟩
  by_cases e : j = i
  ·rw [e]; exact hy.qOp hoi H
  ·obtain ⟨hun, oj, hoj, hall⟩ := mem_ready.1 hj
   have hno : ∀ e ∈ oj.after, Region.binds .any e = true → e.on ≠ i := fun e he hb heq => by
    have h1 := hall e he hb
    rw [heq, getD_both (mem_ready.1 hr).1] at h1
    cases h1
   refine qOp_mono (fun a' h3 => ?_) (qOp_put hoj (hap j oj hoj e hun hno) (fun cs b => hsel i oi cs b hoi) (fun cs b => hsel j oj cs b hoj) hy (H.2 j (ready_mono hj e)).2)
   refine ih _ a' (inv.set hj hjn) (fun k ok hk hki hku hkn => hap k ok hk hki ?_ hkn) (ready_mono hr (Ne.symm e)) h3.1 ?_
   ·by_cases hjk : j = k
    ·rw [← hjk]; exact hun
    ·rwa [getD_set_ne true hjk] at hku
   ·rw [Array.setIfInBounds_comm _ _ e]
    exact h3.2
theorem y0j.lex {g : Nat} {K : Act → Prop} (hsel : Region.noSelect ops = true) (hs : Region.sinkB .any ops n = true) (hc : Region.chainB .any ops n = true) (hn : n < ops.size) (l : List Oper) :
  ∀ (k : Nat) (listed : Array Bool) (a : Act), (∀ j, j < l.length → l[j]? = ops[k + j]?) → k + l.length = n → HeadInv .any ops n listed → Region.lexHead .any ops g l.length k listed = true → wpQuiet P ops C K l a →
   y0j P ops C n (fun listed' a' => Region.seqB .any ops g n listed' = true ∧ K a') l.length listed a := by
 induction l with
 | nil =>
  intro k listed a _ hk _ hB h
  have e : k = n := by simpa using hk
  subst e
  exact ⟨by simpa [Region.lexHead] using hB, h⟩
 | cons o l ih =>
  intro k listed a hl hk inv hB h
  have ho : ops[k]? = some o := by simpa using (hl 0 (by simp)).symm
  simp only [List.length_cons, Region.lexHead, Bool.and_eq_true] at hB hk
  have hr : k ∈ Region.ready .any ops listed := by simpa using hB.1.1
  have hq : qOp P ops C k (wpQuiet P ops C K l) a := by unfold qOp; simp only [ho]; exact h
  obtain ⟨v, hy, hK⟩ := yieldsIn_of_qOp ho hq
  exact y0j.first (Region.noSelect_spec hsel) hs hc hn (fun _ _ hL => seqB_ready hL.1) ho (by omega) l.length listed a inv (Region.free_spec ho hB.1.2) hr hy
   (ih (k + 1) _ _ (fun j hj => by have := hl (j + 1) (by simp; omega); simpa [Nat.add_assoc, Nat.add_comm 1 j] using this) (by omega) (inv.set hr (by omega)) hB.2 hK)
theorem z2j {id : Nat} {Q : Exit → Act → World → Prop} {a : Act} {w : World} {l : List Oper} (n : Nat) (hm : P.follows .mixedOrders = true) (hB : Region.lexTailB .any l.toArray n = true) (hC : C { w with drawn := w.drawn + 1 })
  (h : wpQuiet P l.toArray C (fun a' => ∀ w', C w' → wpList P l.toArray Q (l.drop n) a' w') (l.take n) a) : (Code.region id l.toArray true).wp P Q a w := by
 simp only [Region.lexTailB, Bool.and_eq_true, decide_eq_true_eq] at hB
 obtain ⟨⟨⟨⟨hsel, hn⟩, hs⟩, hc⟩, hlex⟩ := hB
 have hn' : n < l.length := by simpa using hn
 have htl : (l.take n).length = n := by simp; omega
 have hdl : (l.drop n).length = l.toArray.size - n := by simp
 have inv0 : HeadInv .any l.toArray n (Array.replicate l.toArray.size false) :=
  ⟨by simp, fun j oj _ hl => (by rw [getD_replicate_false] at hl; cases hl), fun t _ ht => getD_in (by simpa using ht) (getD_replicate_false _ _)⟩
 have H := y0j.lex (P := P) (C := C) (g := l.toArray.size - n) hsel hs hc hn (l.take n) 0 _ a (fun j hj => by
  rw [htl] at hj
  simp [hj]) (by rw [htl]; simp) inv0 (by rw [htl]; exact hlex) h
 refine wp_region_any hm ?_
 have := y0j.wp (Q := Q) (g := l.toArray.size - n) (fun listed a' hL w' hw' => by
  have := wpAny_of_seq (md := .any) (Q' := Q) (l.drop n) n listed a' w' (fun j => by simp [List.getElem?_drop]) (by rw [hdl]; exact hL.1) (hL.2 w' hw')
  rwa [hdl] at this) _ _ _ H _ hC
 rw [htl, show l.toArray.size - n + n = l.toArray.size by omega] at this
 exact this
end
def BW (w : World) : World → Prop := fun w' => Below w.heap.size w w'
theorem z2i {P : Program} {id : Nat} {Q : Exit → Act → World → Prop} {a : Act} {w : World} {l : List Oper} (n : Nat) (hm : P.follows .mixedOrders = true) (hB : Region.lexTailB .any l.toArray n = true)
  (h : wpQuiet P l.toArray (BW w) (fun a' => ∀ w', Below w.heap.size w w' → wpList P l.toArray Q (l.drop n) a' w') (l.take n) a) : (Code.region id l.toArray true).wp P Q a w :=
 z2j (C := BW w) n hm hB ⟨rfl, rfl, rfl, Nat.le_refl _, fun _ _ => rfl⟩ h
theorem z0u {P : Program} {id : Nat} {Q : Exit → Act → World → Prop} {a : Act} {w : World} {l : List Oper} (hm : P.follows .mixedOrders = true) (hB : Region.lexB .any l.toArray = true)
  (h : wpQuiet P l.toArray (BW w) (fun a' => ∀ w', Below w.heap.size w w' → Q .normal a' w') l a) : (Code.region id l.toArray true).wp P Q a w :=
 wp_region_quiet (C := BW w) hm hB ⟨rfl, rfl, rfl, Nat.le_refl _, fun _ _ => rfl⟩ h
section
variable {P : Program} {ops : Array Oper} {w : World} {Q : Act → Prop} {rest : List Oper} {o : Oper} {a : Act}
theorem k6f (hg : o.guard = none) (v : Value) (hv : ∀ w', Below w.heap.size w w' → (execOp a.eval o).run P w' = .ok (.value v) w') (h : wpQuiet P ops (BW w) Q rest (a.put o.dst v)) : wpQuiet P ops (BW w) Q (o :: rest) a := by
 unfold wpQuiet
 rw [if_pos (by simp [Region.wanted, hg])]
 refine ⟨v, fun w' hw' => ?_, h⟩
 unfold Oper.quietAt
 rw [hv w' hw']
 exact ⟨rfl, rfl⟩
theorem y1h (hg : o.guard = none) (f : FuncId) (args : Array Value) (v : Value) (hv : ∀ w', (execOp a.eval o).run P w' = .ok (.enter f args) w') (hc : ∀ w', Below w.heap.size w w' → Calls P f args w' fun e w'' => e = .returned v ∧ Below w'.heap.size w' w'')
  (h : wpQuiet P ops (BW w) Q rest (a.put o.dst v)) : wpQuiet P ops (BW w) Q (o :: rest) a := by
 unfold wpQuiet
 rw [if_pos (by simp [Region.wanted, hg])]
 refine ⟨v, fun w' hw' => ?_, h⟩
 unfold Oper.quietAt
 rw [hv w']
 refine ⟨rfl, (hc w' hw').mono fun e w'' ⟨he, hb⟩ => ⟨he, ?_⟩⟩
 have h0 : Below w.heap.size w w' := hw'
 exact h0.trans (hb.mono h0.size)
theorem k9u (hg : o.guard = none) (ty : TypeId) (x : Operand) (ho : o.op = .load ty x) (g : Nat) (hx : a.eval x = .pointer (some ⟨g, 0, none⟩)) (t : TypeId) (cs : Array Value) (fr : Nat × Nat) (d : TypeDesc) (hb : w.heap[g]? = some (.cells cs t fr))
  (hu : P.underlying ty = some d) (hd : (match d with | .struct _ | .array _ _ => true | _ => false) = true) (hi : (P.info? ty).map (·.size) = some cs.size)
  (h : wpQuiet P ops (BW w) Q rest (a.put o.dst (.agg cs))) : wpQuiet P ops (BW w) Q (o :: rest) a := by
 refine k6f hg (.agg cs) (fun w' hw' => ?_) h
 have hlt : g < w.heap.size := (aL hb)
 unfold execOp
 simp only [ho, hx, Instr.loadAt, Instr.sureAddr, Sem.run_bind, Sem.run_pure, Result.andThen_ok, run_loadVar_row w' g t ty cs fr d ((hw'.block g hlt).trans hb) hu hd hi]
end
end Qt
end Go.Proofs.YtbojijefenfbgaaGreatDoor
namespace Go.Proofs.YtbojijefenfbgaaGreatDoor
open Go Go.RowKit
namespace Qt
def j2h (P : Program) (w : World) (v : Value) : Result Next → Prop
 | .ok (.value u) w1 => w1 = w ∧ u = v
 | .ok (.enter f args) w1 => w1 = w ∧ Calls P f args w (fun e w'' => e = .returned v ∧ Below w.heap.size w w'')
 | _ => False
def Yb (P : Program) (W : World) (o : Oper) (v : Value) (a : Act) : Prop := o.guard = none ∧ ∀ w, Below W.heap.size W w → j2h P w v ((execOp a.eval o).run P w)
theorem Yb.same {P : Program} {W : World} {o : Oper} {v : Value} {a a' : Act} (h : Yb P W o v a) (he : execOp a'.eval o = execOp a.eval o) : Yb P W o v a' := ⟨h.1, fun w hw => by rw [he]; exact h.2 w hw⟩
theorem Yb.wp {P : Program} {W w : World} {o : Oper} {v : Value} {a : Act} {Q : Exit → Act → World → Prop} {K : Act → World → Prop} (h : Yb P W o v a) (hw : Below W.heap.size W w) (hK : ∀ w', Below w.heap.size w w' → K (a.put o.dst v) w') : o.wp P a w K Q := by
 have h1 := h.2 w hw
 unfold Oper.wp
 generalize (execOp a.eval o).run P w = r at h1
 cases r with
 | halt x w' => cases h1
 | ok x w' =>
  cases x with
  | value u =>
   obtain ⟨e1, e2⟩ := h1
   subst e1 e2
   exact hK _ (Below.refl _ _)
  | enter f args =>
   obtain ⟨e1, hc⟩ := h1
   subst e1
   exact hc.mono fun e w'' ⟨he, hb⟩ => by subst he; exact hK _ hb
  | _ => cases h1
section
variable {P : Program} {ops : Array Oper} {n : Nat} {W : World}
def Still (P : Program) (ops : Array Oper) (n : Nat) (W : World) (K : Array Bool → Act → Prop) : Nat → Array Bool → Act → Prop
 | 0, listed, a => (∀ j, j < n → listed.getD j false = true) ∧ K listed a
 | f + 1, listed, a => (∃ i, i ∈ Region.ready .any ops listed ∧ i < n) ∧ ∀ i ∈ Region.ready .any ops listed, i < n → ∃ oi v, ops[i]? = some oi ∧ Yb P W oi v a ∧ Still P ops n W K f (listed.setIfInBounds i true) (a.put oi.dst v)
theorem Still.first {K : Array Bool → Act → Prop} (hsel : ∀ (j : Nat) (o : Oper) cs b, ops[j]? = some o → o.op ≠ .select cs b) {i : Nat} {oi : Oper} {v : Value} (hoi : ops[i]? = some oi) (hin : i < n) (f : Nat) :
  ∀ listed a, (∀ j oj, ops[j]? = some oj → j ≠ i → listed.getD j true = false → (∀ e ∈ oj.after, Region.binds .any e = true → e.on ≠ i) → oi.apart ops oj = true) →
   i ∈ Region.ready .any ops listed → Yb P W oi v a → Still P ops n W K f (listed.setIfInBounds i true) (a.put oi.dst v) → Still P ops n W K (f + 1) listed a := by
 induction f with
 | zero =>
  intro listed a _ hr hy H
  refine ⟨⟨i, hr, hin⟩, fun j hj hjn => ?_⟩
  by_cases e : j = i
  ·subst e; exact ⟨oi, v, hoi, hy, H⟩
  ·have h1 := H.1 j hjn
   rw [getD_set_ne false (Ne.symm e), getD_both (mem_ready.1 hj).1] at h1
   cases h1
 | succ f ih =>
  intro listed a hap hr hy H
  refine ⟨⟨i, hr, hin⟩, fun j hj hjn => ?_⟩
  by_cases e : j = i
  ·subst e; exact ⟨oi, v, hoi, hy, H⟩
  ·obtain ⟨hun, oj, hoj, hall⟩ := mem_ready.1 hj
   have hno : ∀ e ∈ oj.after, Region.binds .any e = true → e.on ≠ i := fun e he hb heq => by
    have h1 := hall e he hb
    rw [heq, getD_both (mem_ready.1 hr).1] at h1
    cases h1
   obtain ⟨h1, h2, h3⟩ := Oper.apart_spec (hap j oj hoj e hun hno)
   obtain ⟨oj', u, hoj', hyj, hS⟩ := H.2 j (ready_mono hj e) hjn
   obtain rfl : oj' = oj := Option.some.inj (hoj'.symm.trans hoj)
   refine ⟨oj', u, hoj, hyj.same (execOp_put oj' (fun cs b => hsel j oj' cs b hoj) a oi.dst v h1).symm, ?_⟩
   refine ih _ _ (fun k ok hk hki hku hkn => hap k ok hk hki ?_ hkn) (ready_mono hr (Ne.symm e)) (hy.same (execOp_put oi (fun cs b => hsel i oi cs b hoi) a oj'.dst u h3)) ?_
   ·by_cases hjk : j = k
    ·rw [← hjk]; exact hun
    ·rwa [getD_set_ne true hjk] at hku
   ·rw [Array.setIfInBounds_comm _ _ e, ← Act.put_comm a v u h2]
    exact hS
def Lex (P : Program) (W : World) (K : Act → Prop) : List Oper → Act → Prop
 | [], a => K a
 | o :: l, a => ∃ v, Yb P W o v a ∧ Lex P W K l (a.put o.dst v)
def lexF (ops : Array Oper) (B : Array Bool → Bool) : Nat → Nat → Array Bool → Bool
 | 0, _, listed => B listed
 | f + 1, k, listed => (Region.ready .any ops listed).contains k && Region.free .any ops listed k && lexF ops B f (k + 1) (listed.setIfInBounds k true)
theorem Still.lex {K : Act → Prop} {B : Array Bool → Bool} (hsel : Region.noSelect ops = true) (l : List Oper) : ∀ (k : Nat) (listed : Array Bool) (a : Act), (∀ j, j < l.length → l[j]? = ops[k + j]?) → k + l.length = n → n ≤ listed.size → (∀ j, j < k → listed.getD j false = true) →
  lexF ops B l.length k listed = true → Lex P W K l a → Still P ops n W (fun listed' a' => B listed' = true ∧ K a') l.length listed a := by
 induction l with
 | nil =>
  intro k listed a _ hk _ hall hB h
  have e : k = n := by simpa using hk
  subst e
  exact ⟨hall, hB, h⟩
 | cons o l ih =>
  intro k listed a hl hk hsz hall hB h
  have ho : ops[k]? = some o := by simpa using (hl 0 (by simp)).symm
  simp only [List.length_cons, lexF, Bool.and_eq_true] at hB hk
  obtain ⟨v, hy, hK⟩ := h
  refine Still.first (Region.noSelect_spec hsel) ho (by omega) l.length listed a (Region.free_spec ho hB.1.2) (by simpa using hB.1.1) hy ?_
  refine ih (k + 1) _ _ (fun j hj => by have := hl (j + 1) (by simp; omega); simpa [Nat.add_assoc, Nat.add_comm 1 j] using this) (by omega) (by simpa using hsz) (fun j hj => ?_) hB.2 hK
  by_cases e : k = j
  ·subst e
   simp [Array.getD_eq_getD_getElem?, show k < listed.size by omega]
  ·rw [getD_set_ne false e]
   exact hall j (by omega)
theorem z8g {listed : Array Bool} (hw : (List.range n).all (fun i => !Region.waitsFor .any ops i n) = true) {i : Nat} (hi : i ∈ Region.ready .any ops (listed.setIfInBounds n true)) (hin : i < n) : i ∈ Region.ready .any ops listed := by
 rw [mem_ready] at *
 obtain ⟨h0, o, ho, hall⟩ := hi
 have h1 := List.all_eq_true.1 hw i (List.mem_range.2 hin)
 refine ⟨by rwa [getD_set_ne true (by omega)] at h0, o, ho, fun e he hb => ?_⟩
 have h2 := hall e he hb
 have hne : n ≠ e.on := fun h => by
  have : Region.waitsFor .any ops i n = true := by
   unfold Region.waitsFor
   simp only [ho]
   exact Array.any_eq_true'.2 ⟨e, he, by simp [hb, h]⟩
  rw [this] at h1
  cases h1
 rwa [getD_set_ne false hne] at h2
theorem Still.shift {K : Array Bool → Act → Prop} (hsel : Region.noSelect ops = true) (hw : (List.range n).all (fun i => !Region.waitsFor .any ops i n) = true) {on : Oper} (_hon : ops[n]? = some on) (hap : (List.range n).all (fun i => match ops[i]? with | some oi => oi.apart ops on | none => true) = true) (u : Value) (f : Nat) :
  ∀ listed a, n < listed.size → Still P ops n W K f listed a → Still P ops n W (fun listed' a' => ∃ l0 a0, K l0 a0 ∧ listed' = l0.setIfInBounds n true ∧ a' = a0.put on.dst u) f (listed.setIfInBounds n true) (a.put on.dst u) := by
 induction f with
 | zero =>
  intro listed a hn H
  exact ⟨fun j hj => by rw [getD_set_ne false (by omega)]; exact H.1 j hj, listed, a, H.2, rfl, rfl⟩
 | succ f ih =>
  intro listed a hn H
  obtain ⟨⟨i0, hi0, hi0n⟩, H2⟩ := H
  refine ⟨⟨i0, ready_mono hi0 (by omega), hi0n⟩, fun i hi hin => ?_⟩
  obtain ⟨oi, v, hoi, hy, hS⟩ := H2 i (z8g hw hi hin) hin
  have h1 := List.all_eq_true.1 hap i (List.mem_range.2 hin)
  simp only [hoi] at h1
  obtain ⟨a1, a2, a3⟩ := Oper.apart_spec h1
  refine ⟨oi, v, hoi, hy.same (execOp_put oi (fun cs b => Region.noSelect_spec hsel i oi cs b hoi) a on.dst u a3), ?_⟩
  have := ih (listed.setIfInBounds i true) (a.put oi.dst v) (by simpa using hn) hS
  rw [Array.setIfInBounds_comm _ _ (by omega : i ≠ n)] at this
  rwa [Act.put_comm a v u a2] at this
theorem z6z {listed : Array Bool} {m i j : Nat} (hs : Region.sinkB .any ops m = true) (hc : Region.chainB .any ops m = true) (hn : m < ops.size) (inv : HeadInv .any ops m listed) (hun : listed.getD i true = false) (him : i < m) (hj : j ∈ Region.ready .any ops listed) : j < m := by
 rcases Nat.lt_or_ge j m with h | h
 ·exact h
 ·exact absurd hj (tail_waits hs hc hn inv _ i rfl him hun j h)
theorem Still.k8r {K : Array Bool → Act → Prop} {R : World → Prop} {Q : Exit → Act → World → Prop} {g : Nat} (_hg : ∀ (i : Nat) (o : Oper), ops[i]? = some o → o.guard = none) (hs : Region.sinkB .any ops (n + 1) = true) (hc : Region.chainB .any ops (n + 1) = true) (hn : n + 1 < ops.size)
  (hR : ∀ w w', R w → Below w.heap.size w w' → R w') (hK : ∀ listed a, K listed a → ∀ w, Below W.heap.size W w → R w → wpAny P .any ops Q g listed a w) (f : Nat) :
  ∀ listed a, HeadInv .any ops (n + 1) listed → listed.getD n false = true → Still P ops n W K f listed a → ∀ w, Below W.heap.size W w → R w → wpAny P .any ops Q (g + f) listed a w := by
 induction f with
 | zero => intro listed a _ _ H w hw hr; exact hK _ _ H.2 w hw hr
 | succ f ih =>
  intro listed a inv hln H w hw hr
  obtain ⟨⟨i0, hi0, hi0n⟩, H2⟩ := H
  refine ⟨fun h0 => (by rw [h0] at hi0; cases hi0), fun i hi => ?_⟩
  have hi1 := z6z hs hc hn inv (mem_ready.1 hi0).1 (by omega) hi
  have hin : i < n := by
   rcases Nat.lt_or_ge i n with h | h
   ·exact h
   ·obtain rfl : i = n := by omega
    have := getD_both (mem_ready.1 hi).1
    rw [hln] at this; cases this
  obtain ⟨oi, v, hoi, hy, hS⟩ := H2 i hi hin
  unfold wpOp
  simp only [hoi]
  rw [if_pos (by simp [Region.wanted, hy.1])]
  refine .inl (hy.wp hw fun w' hb => ?_)
  exact ih _ _ (inv.set hi hi1) (by rw [getD_set_ne false (by omega)]; exact hln) hS w' (hw.trans (hb.mono hw.size)) (hR w w' hr hb)
theorem Still.k8q {K : Array Bool → Act → Prop} {R : Value → World → Prop} {Q : Exit → Act → World → Prop} {g : Nat} (hsel : Region.noSelect ops = true) (hg : ∀ (i : Nat) (o : Oper), ops[i]? = some o → o.guard = none) (hs : Region.sinkB .any ops (n + 1) = true) (hc : Region.chainB .any ops (n + 1) = true) (hn : n + 1 < ops.size)
  (hwt : (List.range n).all (fun i => !Region.waitsFor .any ops i n) = true) {on : Oper} (hon : ops[n]? = some on) (hap : (List.range n).all (fun i => match ops[i]? with | some oi => oi.apart ops on | none => true) = true) (hfree : on.after = #[])
  (hR : ∀ u w w', R u w → Below w.heap.size w w' → R u w')
  (hfl : ∀ a w Kn, Below W.heap.size W w → (∀ u w', R u w' → Below W.heap.size W w' → Kn (a.put on.dst u) w') → on.wp P a w Kn Q)
  (hK : ∀ u l0 a0, K l0 a0 → ∀ w, Below W.heap.size W w → R u w → wpAny P .any ops Q g (l0.setIfInBounds n true) (a0.put on.dst u) w) (f : Nat) :
  ∀ listed a, HeadInv .any ops (n + 1) listed → listed.getD n true = false → Still P ops n W K f listed a → ∀ w, Below W.heap.size W w → wpAny P .any ops Q (g + f + 1) listed a w := by
 have hnr : ∀ listed : Array Bool, listed.getD n true = false → n ∈ Region.ready .any ops listed := fun listed h => mem_ready.2 ⟨h, on, hon, fun e he => by rw [hfree] at he; simp at he⟩
 have hfloat : ∀ f listed a, HeadInv .any ops (n + 1) listed → listed.getD n true = false → Still P ops n W K f listed a → ∀ w, Below W.heap.size W w → wpOp P ops Q n (wpAny P .any ops Q (g + f) (listed.setIfInBounds n true)) a w := by
  intro f listed a inv hln H w hw
  unfold wpOp
  simp only [hon]
  rw [if_pos (by simp [Region.wanted, hg n on hon])]
  refine .inl (hfl a w _ hw fun u w' hr hb => ?_)
  have hsz : n < listed.size := by
   rcases Nat.lt_or_ge n listed.size with h | h
   ·exact h
   ·simp [Array.getD_eq_getD_getElem?, Array.getElem?_eq_none h] at hln
  have hS := Still.shift (P := P) (W := W) hsel hwt hon hap u f listed a hsz H
  have hset : (listed.setIfInBounds n true).getD n false = true := by simp [Array.getD_eq_getD_getElem?, hsz]
  have hend : ∀ listed' a', (∃ l0 a0, K l0 a0 ∧ listed' = l0.setIfInBounds n true ∧ a' = a0.put on.dst u) → ∀ w, Below W.heap.size W w → R u w → wpAny P .any ops Q g listed' a' w := by
   rintro listed' a' ⟨l0, a0, hk, e1, e2⟩ w1 hw1 hr1
   rw [e1, e2]
   exact hK u l0 a0 hk w1 hw1 hr1
  exact Still.k8r (R := R u) hg hs hc hn (hR u) hend f _ _ (inv.set (hnr listed hln) (by omega)) hset hS w' hb hr
 induction f with
 | zero =>
  intro listed a inv hln H w hw
  refine ⟨fun h0 => (by have := hnr listed hln; rw [h0] at this; cases this), fun i hi => ?_⟩
  have hi1 := z6z hs hc hn inv hln (by omega) hi
  have hin : i = n := by
   rcases Nat.lt_or_ge i n with h | h
   ·have h1 := H.1 i h
    rw [getD_both (mem_ready.1 hi).1] at h1; cases h1
   ·omega
  rw [hin]
  exact hfloat 0 listed a inv hln H w hw
 | succ f ih =>
  intro listed a inv hln H w hw
  refine ⟨fun h0 => (by have := hnr listed hln; rw [h0] at this; cases this), fun i hi => ?_⟩
  have hi1 := z6z hs hc hn inv hln (by omega) hi
  by_cases e : i = n
  ·rw [e]; exact hfloat (f + 1) listed a inv hln H w hw
  ·have hin : i < n := by omega
   obtain ⟨oi, v, hoi, hy, hS⟩ := H.2 i hi hin
   unfold wpOp
   simp only [hoi]
   rw [if_pos (by simp [Region.wanted, hy.1])]
   refine .inl (hy.wp hw fun w' hb => ?_)
   exact ih _ _ (inv.set hi hi1) (by rw [getD_set_ne true e]; exact hln) hS w' (hw.trans (hb.mono hw.size))
end
def floatB (ops : Array Oper) (n : Nat) : Bool :=
 Region.noSelect ops && decide (n + 1 < ops.size) && ops.all (fun o => o.guard.isNone) && Region.sinkB .any ops (n + 1) && Region.chainB .any ops (n + 1) && (List.range n).all (fun i => !Region.waitsFor .any ops i n) &&
 (List.range n).all (fun i => match ops[i]?, ops[n]? with | some oi, some on => oi.apart ops on | _, _ => true) && (match ops[n]? with | some on => on.after.isEmpty | none => false) &&
 lexF ops (fun listed => Region.seqB .any ops (ops.size - (n + 1)) (n + 1) (listed.setIfInBounds n true)) n 0 (Array.replicate ops.size false)
theorem y2d {P : Program} {id : Nat} {Q : Exit → Act → World → Prop} {a : Act} {w : World} {l : List Oper} {R : Value → World → Prop} (n : Nat) (hm : P.follows .mixedOrders = true) (hB : floatB l.toArray n = true) (on : Oper) (hon : l[n]? = some on)
  (hR : ∀ u w w', R u w → Below w.heap.size w w' → R u w')
  (hfl : ∀ a w1 Kn, Below w.heap.size w w1 → (∀ u w', R u w' → Below w.heap.size w w' → Kn (a.put on.dst u) w') → on.wp P a w1 Kn Q)
  (h : Lex P w (fun a' => ∀ u w', Below w.heap.size w w' → R u w' → wpList P l.toArray Q (l.drop (n + 1)) (a'.put on.dst u) w') (l.take n) a) : (Code.region id l.toArray true).wp P Q a w := by
 simp only [floatB, Bool.and_eq_true, decide_eq_true_eq] at hB
 obtain ⟨⟨⟨⟨⟨⟨⟨⟨hsel, hn⟩, hgd⟩, hs⟩, hc⟩, hwt⟩, hap⟩, hfr⟩, hlex⟩ := hB
 have hon' : l.toArray[n]? = some on := by simpa using hon
 have hn' : n + 1 < l.length := by simpa using hn
 have htl : (l.take n).length = n := by simp; omega
 have hdl : (l.drop (n + 1)).length = l.toArray.size - (n + 1) := by simp
 have inv0 : HeadInv .any l.toArray (n + 1) (Array.replicate l.toArray.size false) :=
  ⟨by simp, fun j oj _ hl => (by rw [getD_replicate_false] at hl; cases hl), fun t _ ht => getD_in (by simpa using ht) (getD_replicate_false _ _)⟩
 have hguard : ∀ (i : Nat) (o : Oper), l.toArray[i]? = some o → o.guard = none := fun i o ho => by
  have h1 := Array.all_eq_true_iff_forall_mem.1 hgd o (Array.mem_of_getElem? ho)
  simpa using h1
 have hS := Still.lex (P := P) (W := w) (n := n) hsel (l.take n) 0 (Array.replicate l.toArray.size false) a (fun j hj => by rw [htl] at hj; simp [hj]) (by rw [htl]; simp) (by simp; omega) (fun j hj => absurd hj (by omega)) (by rw [htl]; exact hlex) h
 rw [htl] at hS
 simp only [hon'] at hap hfr
 refine wp_region_any hm ?_
 have hK : ∀ (u : Value) (l0 : Array Bool) (a0 : Act), ((fun listed : Array Bool => Region.seqB .any l.toArray (l.toArray.size - (n + 1)) (n + 1) (listed.setIfInBounds n true)) l0 = true ∧ ∀ u w', Below w.heap.size w w' → R u w' → wpList P l.toArray Q (l.drop (n + 1)) (a0.put on.dst u) w') →
   ∀ w1, Below w.heap.size w w1 → R u w1 → wpAny P .any l.toArray Q (l.toArray.size - (n + 1)) (l0.setIfInBounds n true) (a0.put on.dst u) w1 := fun u l0 a0 hk w1 hw1 hr1 => by
  have := wpAny_of_seq (md := .any) (Q' := Q) (l.drop (n + 1)) (n + 1) (l0.setIfInBounds n true) (a0.put on.dst u) w1 (fun j => by simp [List.getElem?_drop]) (by rw [hdl]; exact hk.1) (hk.2 u w1 hw1 hr1)
  rwa [hdl] at this
 have := Still.k8q (P := P) (W := w) (R := R) (Q := Q) (g := l.toArray.size - (n + 1)) hsel hguard hs hc hn hwt hon' (by
  rw [List.all_eq_true] at hap ⊢
  intro i hi
  have := hap i hi
  cases hoi : l.toArray[i]? with
  | none => rfl
  | some oi => rw [hoi] at this; exact this) (by simpa using hfr) hR hfl hK n _ a inv0 (getD_in (by simp; omega) (getD_replicate_false _ _)) hS { w with drawn := w.drawn + 1 } ⟨rfl, rfl, rfl, Nat.le_refl _, fun _ _ => rfl⟩
 rwa [show l.toArray.size - (n + 1) + n + 1 = l.toArray.size by omega] at this
end Qt
open Go Go.RowKit
namespace Qt
section
variable {P : Program} {W : World} {K : Act → Prop} {l : List Oper} {o : Oper} {a : Act}
theorem z1a (h : K a) : Lex P W K [] a := h
theorem z0b (hg : o.guard = none) (v : Value) (hv : ∀ w', Below W.heap.size W w' → (execOp a.eval o).run P w' = .ok (.value v) w') (h : Lex P W K l (a.put o.dst v)) : Lex P W K (o :: l) a :=
 ⟨v, ⟨hg, fun w' hw' => by rw [hv w' hw']; exact ⟨rfl, rfl⟩⟩, h⟩
theorem z0e (hg : o.guard = none) (f : FuncId) (args : Array Value) (v : Value) (hv : ∀ w', (execOp a.eval o).run P w' = .ok (.enter f args) w') (hc : ∀ w', Below W.heap.size W w' → Calls P f args w' fun e w'' => e = .returned v ∧ Below w'.heap.size w' w'')
  (h : Lex P W K l (a.put o.dst v)) : Lex P W K (o :: l) a :=
 ⟨v, ⟨hg, fun w' hw' => by rw [hv w']; exact ⟨rfl, hc w' hw'⟩⟩, h⟩
theorem z7g (hg : o.guard = none) (ty : TypeId) (x : Operand) (ho : o.op = .load ty x) (g : Nat) (hx : a.eval x = .pointer (some ⟨g, 0, none⟩)) (t : TypeId) (cs : Array Value) (fr : Nat × Nat) (d : TypeDesc) (hb : W.heap[g]? = some (.cells cs t fr))
  (hu : P.underlying ty = some d) (hd : (match d with | .struct _ | .array _ _ => true | _ => false) = true) (hi : (P.info? ty).map (·.size) = some cs.size)
  (h : Lex P W K l (a.put o.dst (.agg cs))) : Lex P W K (o :: l) a := by
 refine z0b hg (.agg cs) (fun w' hw' => ?_) h
 have hlt : g < W.heap.size := (aL hb)
 unfold execOp
 simp only [ho, hx, Instr.loadAt, Instr.sureAddr, Sem.run_bind, Sem.run_pure, Result.andThen_ok, run_loadVar_row w' g t ty cs fr d ((hw'.block g hlt).trans hb) hu hd hi]
theorem k7m (hg : o.guard = none) (ty : TypeId) (x : Operand) (ho : o.op = .load ty x) (b off : Nat) (hx : a.eval x = .pointer (some ⟨b, off, none⟩)) (cs : List Value) (d : TypeDesc) (hb : b < W.heap.size) (hc : W.rangeAt b off cs)
  (hu : P.underlying ty = some d) (hd : d.isRow = true) (hi : (P.info? ty).map (·.size) = some cs.length)
  (h : Lex P W K l (a.put o.dst (.agg cs.toArray))) : Lex P W K (o :: l) a := by
 refine z0b hg (.agg cs.toArray) (fun w' hw' => ?_) h
 unfold execOp
 simp only [ho, hx, Instr.loadAt, Instr.sureAddr, Sem.run_bind, Sem.run_pure, Result.andThen_ok, run_loadVar_mid w' b off ty cs d (fun j v hj => by rw [hw'.cell (by exact hb)]; exact hc j v hj) hu hd hi]
theorem Lex.quiet {ops : Array Oper} (h : Lex P W K l a) : wpQuiet P ops (BW W) K l a := by
 induction l generalizing a with
 | nil => exact h
 | cons o l ih =>
  obtain ⟨v, hy, hl⟩ := h
  unfold wpQuiet
  rw [if_pos (by simp [Region.wanted, hy.1])]
  refine ⟨v, fun w' hw' => ?_, ih hl⟩
  have h0 : Below W.heap.size W w' := hw'
  have h1 := hy.2 w' h0
  unfold Oper.quietAt
  generalize (execOp a.eval o).run P w' = r at h1 ⊢
  cases r with
  | halt x w1 => cases h1
  | ok x w1 =>
   cases x with
   | value u => exact h1
   | enter f args => exact ⟨h1.1, h1.2.mono fun e w'' ⟨he, hb⟩ => ⟨he, h0.trans (hb.mono h0.size)⟩⟩
   | _ => cases h1
end
theorem z0q {P : Program} {id : Nat} {Q : Exit → Act → World → Prop} {a : Act} {w : World} {l : List Oper} (n : Nat) (hm : P.follows .mixedOrders = true) (hB : Region.lexTailB .any l.toArray n = true)
  (h : Lex P w (fun a' => ∀ w', Below w.heap.size w w' → wpList P l.toArray Q (l.drop n) a' w') (l.take n) a) : (Code.region id l.toArray true).wp P Q a w := z2i n hm hB h.quiet
theorem y2a {P : Program} {id : Nat} {Q : Exit → Act → World → Prop} {a : Act} {w : World} {l : List Oper} (hm : P.follows .mixedOrders = true) (hB : Region.lexB .any l.toArray = true)
  (h : Lex P w (fun a' => ∀ w', Below w.heap.size w w' → Q .normal a' w') l a) : (Code.region id l.toArray true).wp P Q a w := z0u hm hB h.quiet
theorem q0a {P : Program} {ops : Array Oper} {Q : Exit → Act → World → Prop} {r : List Oper} (l : List Oper) : ∀ (a : Act) (w w0 : World), Below w0.heap.size w0 w → Lex P w0 (fun a' => ∀ w', Below w0.heap.size w0 w' → wpList P ops Q r a' w') l a → wpList P ops Q (l ++ r) a w := by
 induction l with
 | nil => intro a w w0 hw h; exact h w hw
 | cons o l ih =>
  intro a w w0 hw h
  obtain ⟨v, hy, hl⟩ := h
  refine wpList_plain hy.1 fun K' hK' => ?_
  refine hy.wp hw fun w' hb => hK' _ _ ?_
  exact ih _ w' w0 (hw.trans (hb.mono hw.size)) hl
theorem y5g {P : Program} {id : Nat} {Q : Exit → Act → World → Prop} {a : Act} {w : World} {l : List Oper} (n : Nat) (h : Lex P w (fun a' => ∀ w', Below w.heap.size w w' → wpList P l.toArray Q (l.drop n) a' w') (l.take n) a) : (Code.region id l.toArray false).wp P Q a w := by
 refine wp_region_list ?_
 have := q0a (ops := l.toArray) (Q := Q) (r := l.drop n) (l.take n) a w w (Below.refl _ _) h
 rwa [List.take_append_drop] at this
theorem y2b {P : Program} {id : Nat} {Q : Exit → Act → World → Prop} {a : Act} {w : World} {l : List Oper} (n : Nat) (hm : P.follows .mixedOrders = true) (hB : floatB l.toArray n = true) (on : Oper) (hon : l[n]? = some on) (T : TypeId) (hop : on.op = .alloc T) (zs : Array Value) (hz : (P.info? T).map (fun i => i.zero) = some (some (.agg zs)))
  (h : Lex P w (fun a' => ∀ b w', Below w.heap.size w w' → w.heap.size ≤ b → w'.heap[b]? = some (.cells zs T (0, 0)) → wpList P l.toArray Q (l.drop (n + 1)) (a'.put on.dst (.pointer (some ⟨b, 0, none⟩))) w') (l.take n) a) : (Code.region id l.toArray true).wp P Q a w := by
 refine y2d (R := fun u w' => ∃ b, u = .pointer (some ⟨b, 0, none⟩) ∧ w.heap.size ≤ b ∧ w'.heap[b]? = some (.cells zs T (0, 0))) n hm hB on hon ?_ ?_ ?_
 ·rintro u w1 w2 ⟨b, e, hb, hr⟩ h12
  exact ⟨b, e, hb, (h12.block b (aL hr)).trans hr⟩
 ·intro a' w1 Kn hw1 hK
  obtain ⟨i, hi, hzi⟩ := Option.map_eq_some_iff.1 hz
  unfold Oper.wp
  simp [execOp, hop, Instr.alloc, zeroValue, typeInfo, hi, hzi, newVar, newRow, Value.cells, Result.andThen]
  exact hK _ _ ⟨w1.heap.size, rfl, hw1.size, heap_alloc_new _ _⟩ (hw1.alloc hw1.size _)
 ·have hmono : ∀ (l' : List Oper) (a : Act) (K K' : Act → Prop), (∀ a, K a → K' a) → Lex P w K l' a → Lex P w K' l' a := by
   intro l'
   induction l' with
   | nil => intro a K K' hk h; exact hk _ h
   | cons o l' ih => intro a K K' hk ⟨v, hy, hl⟩; exact ⟨v, hy, ih _ K K' hk hl⟩
  refine hmono _ _ _ _ (fun a' ha' u w' hw' ⟨b, e, hb, hr⟩ => ?_) h
  rw [e]
  exact ha' b w' hw' hb hr
theorem y7y {P : Program} {Q : Exit → Act → World → Prop} {a : Act} {w : World} {l : List Oper} (n : Nat) (h : Lex P w (fun a' => ∀ w', Below w.heap.size w w' → wpList P l.toArray Q (l.drop n) a' w') (l.take n) a) : wpList P l.toArray Q l a w := by
 have := q0a (ops := l.toArray) (Q := Q) (r := l.drop n) (l.take n) a w w (Below.refl _ _) h
 rwa [List.take_append_drop] at this
theorem done {P : Program} {ops : Array Oper} {K : Act → World → Prop} {Q : Exit → Act → World → Prop} {a : Act} {w : World} (h : K a w) : wpList P ops (Exit.then K Q) [] a w := h
theorem y5f {P : Program} {Q : Exit → Act → World → Prop} {a : Act} {w : World} {l : List Oper} (n : Nat) (on : Oper) (hon : l[n]? = some on) (T : TypeId) (hop : on.op = .alloc T) (zs : Array Value) (hz : (P.info? T).map (fun i => i.zero) = some (some (.agg zs))) (hgn : on.guard = none)
  (h : Lex P w (fun a' => ∀ b w', Below w.heap.size w w' → w.heap.size ≤ b → w'.heap[b]? = some (.cells zs T (0, 0)) → wpList P l.toArray Q (l.drop (n + 1)) (a'.put on.dst (.pointer (some ⟨b, 0, none⟩))) w') (l.take n) a) : wpList P l.toArray Q l a w := by
 refine y7y n ?_
 have hd : l.drop n = on :: l.drop (n + 1) := by
  have hlt : n < l.length := (lL hon)
  rw [List.drop_eq_getElem_cons hlt]
  congr 1
  exact (List.getElem?_eq_some_iff.1 hon).2
 have hmono : ∀ (l' : List Oper) (a : Act) (K K' : Act → Prop), (∀ a, K a → K' a) → Lex P w K l' a → Lex P w K' l' a := by
  intro l'
  induction l' with
  | nil => intro a K K' hk h; exact hk _ h
  | cons o l' ih => intro a K K' hk ⟨v, hy, hl⟩; exact ⟨v, hy, ih _ K K' hk hl⟩
 refine hmono _ _ _ _ (fun a' ha' w' hw' => ?_) h
 rw [hd]
 refine Own.z0t _ hgn T hop zs hz ?_
 exact ha' w'.heap.size _ (hw'.alloc hw'.size _) hw'.size (heap_alloc_new _ _)
theorem y2c {P : Program} {id : Nat} {Q : Exit → Act → World → Prop} {a : Act} {w : World} {l : List Oper} (n : Nat) (on : Oper) (hon : l[n]? = some on) (T : TypeId) (hop : on.op = .alloc T) (zs : Array Value) (hz : (P.info? T).map (fun i => i.zero) = some (some (.agg zs))) (hgn : on.guard = none)
  (h : Lex P w (fun a' => ∀ b w', Below w.heap.size w w' → w.heap.size ≤ b → w'.heap[b]? = some (.cells zs T (0, 0)) → wpList P l.toArray Q (l.drop (n + 1)) (a'.put on.dst (.pointer (some ⟨b, 0, none⟩))) w') (l.take n) a) : (Code.region id l.toArray false).wp P Q a w :=
 wp_region_list (y5f n on hon T hop zs hz hgn h)
end Qt
open Go Go.RowKit
namespace Qg
open Qt
variable {P : Program} {ops : Array Oper} {w : World} {Q : Act → Prop} {rest : List Oper} {o : Oper} {a : Act}
theorem off (hw : Region.wanted o (yielded ops a.tmps) = false) (h : wpQuiet P ops (BW w) Q rest (a.put o.dst undef)) : wpQuiet P ops (BW w) Q (o :: rest) a := by
 unfold wpQuiet
 rw [if_neg (by rw [hw]; decide)]
 exact h
theorem val (hw : Region.wanted o (yielded ops a.tmps) = true) (v : Value) (hv : ∀ w', Below w.heap.size w w' → (execOp a.eval o).run P w' = .ok (.value v) w') (h : wpQuiet P ops (BW w) Q rest (a.put o.dst v)) : wpQuiet P ops (BW w) Q (o :: rest) a := by
 unfold wpQuiet
 rw [if_pos hw]
 refine ⟨v, fun w' hw' => ?_, h⟩
 unfold Oper.quietAt
 rw [hv w' hw']
 exact ⟨rfl, rfl⟩
theorem call (hw : Region.wanted o (yielded ops a.tmps) = true) (f : FuncId) (args : Array Value) (v : Value) (hv : ∀ w', (execOp a.eval o).run P w' = .ok (.enter f args) w') (hc : ∀ w', Below w.heap.size w w' → Calls P f args w' fun e w'' => e = .returned v ∧ Below w'.heap.size w' w'') (h : wpQuiet P ops (BW w) Q rest (a.put o.dst v)) : wpQuiet P ops (BW w) Q (o :: rest) a := by
 unfold wpQuiet
 rw [if_pos hw]
 refine ⟨v, fun w' hw' => ?_, h⟩
 unfold Oper.quietAt
 rw [hv w']
 exact ⟨rfl, (hc w' hw').mono fun e w'' ⟨he, hb⟩ => ⟨he, Below.trans hw' (hb.mono (Below.size hw'))⟩⟩
theorem row (hw : Region.wanted o (yielded ops a.tmps) = true) (ty : TypeId) (x : Operand) (ho : o.op = .load ty x) (g : Nat) (hx : a.eval x = .pointer (some ⟨g, 0, none⟩)) (t : TypeId) (cs : Array Value) (fr : Nat × Nat) (d : TypeDesc) (hb : w.heap[g]? = some (.cells cs t fr))
  (hu : P.underlying ty = some d) (hd : (match d with | .struct _ | .array _ _ => true | _ => false) = true) (hi : (P.info? ty).map (·.size) = some cs.size)
  (h : wpQuiet P ops (BW w) Q rest (a.put o.dst (.agg cs))) : wpQuiet P ops (BW w) Q (o :: rest) a := by
 refine val hw (.agg cs) (fun w' hw' => ?_) h
 have hlt : g < w.heap.size := (aL hb)
 unfold execOp
 simp only [ho, hx, Instr.loadAt, Instr.sureAddr, Sem.run_bind, Sem.run_pure, Result.andThen_ok, run_loadVar_row w' g t ty cs fr d ((hw'.block g hlt).trans hb) hu hd hi]
end Qg
end Go.Proofs.YtbojijefenfbgaaGreatDoor
namespace Go.Proofs.YtbojijefenfbgaaGreatDoor
def un (x : BitVec 64) : Int := (x.toNat : Int)
namespace UV
theorem k2a (x : BitVec 64) : 0 ≤ un x := by unfold un; omega
theorem y5b (n : Nat) (h : n < 18446744073709551616) : un (BitVec.ofNat 64 n) = (n : Int) := by
 unfold un; rw [BitVec.toNat_ofNat]; rw [Nat.mod_eq_of_lt (by omega)]
theorem x9w (n : Nat) : IntKind.u64.wrap (n : Int) = un (BitVec.ofNat 64 n) := by
 unfold un; rw [IntKind.wrap_u64, BitVec.toNat_ofNat]; rfl
theorem z1c (x : BitVec 64) : IntKind.u64.wrap (un x) = un x := by
 unfold un; rw [IntKind.wrap_u64]; have := x.isLt; omega
theorem z6q (x y : BitVec 64) : IntKind.u64.wrap (un x + un y) = un (x + y) := by
 unfold un; rw [IntKind.wrap_u64, BitVec.toNat_add]; rfl
theorem z5u (x y : BitVec 64) : IntKind.u64.wrap (un x * un y) = un (x * y) := by
 unfold un; rw [IntKind.wrap_u64, BitVec.toNat_mul]; rfl
theorem z6r (x y : BitVec 64) : IntKind.u64.wrap (un x - un y) = un (x - y) := by
 unfold un; rw [IntKind.wrap_u64, BitVec.toNat_sub]; have := x.isLt; have := y.isLt; omega
theorem z6s (x y : BitVec 64) : bits .xor .u64 (un x) (un y) = un (x ^^^ y) := by
 unfold un; rw [bits_xor_u64_nat _ _ x.isLt y.isLt, BitVec.toNat_xor]
theorem z4x (x y : BitVec 64) : bits .and .u64 (un x) (un y) = un (x &&& y) := by
 unfold un; rw [bits_and_u64_nat _ _ x.isLt y.isLt, BitVec.toNat_and]
theorem y1w (x y : BitVec 64) : bits .or .u64 (un x) (un y) = un (x ||| y) := by
 unfold un; rw [bits_or_u64_nat _ _ x.isLt y.isLt, BitVec.toNat_or]
theorem z3z (x : BitVec 64) (n : Nat) : un x / 2 ^ n = un (x >>> n) := by
 unfold un; rw [BitVec.toNat_ushiftRight, Nat.shiftRight_eq_div_pow, Int.natCast_ediv]; simp
theorem z4m (x : BitVec 64) (n : Nat) : IntKind.u64.wrap (un x * 2 ^ n) = un (x <<< n) := by
 unfold un; rw [IntKind.wrap_u64, BitVec.toNat_shiftLeft, Nat.shiftLeft_eq]
 have : ((x.toNat : Int) * 2 ^ n) = ((x.toNat * 2 ^ n : Nat) : Int) := by simp
 rw [this]; rfl
theorem z5v (x : BitVec 64) : bits .xor .u64 18446744073709551615 (un x) = un (~~~ x) := by
 unfold un
 have := bits_xor_u64_nat 18446744073709551615 x.toNat (by omega) x.isLt
 rw [show ((18446744073709551615 : Nat) : Int) = 18446744073709551615 from rfl] at this
 rw [this]
 have h : ~~~ x = BitVec.ofNat 64 18446744073709551615 ^^^ x := by
  rw [show BitVec.ofNat 64 18446744073709551615 = BitVec.allOnes 64 from rfl, BitVec.allOnes_xor]
 rw [h, BitVec.toNat_xor]; rfl
theorem z3n (x : BitVec 64) : bits .xor .u64 IntKind.u64.max (un x) = un (~~~ x) := by rw [show IntKind.u64.max = 18446744073709551615 from rfl, z5v]
theorem x9v (n : Nat) (x : BitVec 64) : IntKind.u64.wrap ((OfNat.ofNat n : Int) * un x) = un (BitVec.ofNat 64 n * x) := by
 unfold un; rw [IntKind.wrap_u64, BitVec.toNat_mul, BitVec.toNat_ofNat]
 show ((n : Int) * (x.toNat : Int)) % 18446744073709551616 = _
 rw [Nat.mod_mul_mod]
 have : ((n : Int) * (x.toNat : Int)) = ((n * x.toNat : Nat) : Int) := by simp
 rw [this]; rfl
theorem k7e {x y : BitVec 64} (h : un x = un y) : x = y := by
 unfold un at h; exact BitVec.eq_of_toNat_eq (by omega)
end UV
end Go.Proofs.YtbojijefenfbgaaGreatDoor
